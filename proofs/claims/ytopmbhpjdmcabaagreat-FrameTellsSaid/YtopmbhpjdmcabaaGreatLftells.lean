/- FrameTells is proved: for every two transactions and every change the law returns true and its arguments read as they did. No other condition. -/
import Derived.Test.YtopmbhpjdmcabaaGreatGm
import Derived.Test.YtopmbhpjdmcabaaGreatGn
import Derived.Test.YtopmbhpjdmcabaaGreatMl
import Derived.Test.YtopmbhpjdmcabaaGreatFra
import Derived.Test.YtopmbhpjdmcabaaGreatHb
import Derived.Test.YtopmbhpjdmcabaaGreatHc
import Derived.WideKeyPair
import Derived.SizedLaws
namespace Go.Proofs.YtopmbhpjdmcabaaGreat
open Go.ChangeShapes Go.WideShapes Go.ChangeAt Go.RowKit
open Go.ChangeMaps (open_string shut_string)
namespace LaFrameTells
open Cod Sch Frm
section
variable {H : Type} {enc : TypeId × Value → H} {W : World} {base : Nat} {sp : Nat → Bool} {held : Bool}
set_option maxRecDepth 100000 in
theorem open_chg {v : Value} {d : DataW H} {p : List MemPlace} {r : Reach} {b0 : Nat} (hok : Value.okWide Tryz.prog W r b0 32 v) (h : DataW.Trod enc Tryz.prog W base sp held 32 v d p) (hz : Sz 32 d) : ∃ x : M, v = x.agg ∧ x.In W ∧ InnM x := by
  obtain ⟨cs, rfl, hsz⟩ := okWide_struct Tryz.underlying32 hok
  obtain ⟨fuel, hf⟩ := h
  have hf2 : DataW.trod enc Tryz.prog W base sp held fuel 32 cs.toList = some (d, p) := by simpa [Value.cells] using hf
  obtain ⟨m, hm, hi, hn⟩ := open_m hf2 hz
  refine ⟨m, ?_, hi, hn⟩
  have e : cs = m.cells.toArray := by apply Array.toList_inj.1; rw [hm]
  rw [e]; rfl
end
/-- The three boxes, and what was made since. -/
def BoxT (a b : X) (c : M) (w wr : World) : Prop := Below (w.heap.size + 3) (((w.alloc (.cells #[.int .i64 a.seq, .int .i64 a.tm, .slice a.co a.l.length a.cc] 24)).alloc (.cells #[.int .i64 b.seq, .int .i64 b.tm, .slice b.co b.l.length b.cc] 24)).alloc (.cells #[.int .i64 c.c.op, .string (S c.c.tb), .slice c.ro c.c.row.length c.rc, .int .i64 c.c.a, .int .i64 c.c.z, .string (S c.c.df.nm), .slice c.qo c.c.df.cols.length c.qc, .int .i64 c.c.df.keys] 32)) wr
section
variable {a b : X} {c : M} {w wr w' : World}
theorem BoxT.start (a b : X) (c : M) (w : World) : BoxT a b c w (((w.alloc (.cells #[.int .i64 a.seq, .int .i64 a.tm, .slice a.co a.l.length a.cc] 24)).alloc (.cells #[.int .i64 b.seq, .int .i64 b.tm, .slice b.co b.l.length b.cc] 24)).alloc (.cells #[.int .i64 c.c.op, .string (S c.c.tb), .slice c.ro c.c.row.length c.rc, .int .i64 c.c.a, .int .i64 c.c.z, .string (S c.c.df.nm), .slice c.qo c.c.df.cols.length c.qc, .int .i64 c.c.df.keys] 32)) := Below.refl _ _
theorem BoxT.size (h : BoxT a b c w wr) : w.heap.size + 3 ≤ wr.heap.size := by have := Below.size h; simpa using this
theorem BoxT.below (h : BoxT a b c w wr) : Below w.heap.size w wr :=
  ((((Below.refl _ _).alloc (Nat.le_refl w.heap.size) _).alloc (by simp) _).alloc (by simp; omega) _).trans (Below.mono h (by simp))
theorem BoxT.then (h : BoxT a b c w wr) (hb : Below wr.heap.size wr w') : BoxT a b c w w' := Below.trans h (hb.mono h.size)
theorem BoxT.a0 (h : BoxT a b c w wr) : wr.cell? ⟨w.heap.size, 0, none⟩ = some (.int .i64 a.seq) := by
  rw [Below.cell h (p := ⟨w.heap.size, 0, none⟩) (show w.heap.size < w.heap.size + 3 by omega)]; simp [go_sem]
theorem BoxT.a1 (h : BoxT a b c w wr) : wr.cell? ⟨w.heap.size, 1, none⟩ = some (.int .i64 a.tm) := by
  rw [Below.cell h (p := ⟨w.heap.size, 1, none⟩) (show w.heap.size < w.heap.size + 3 by omega)]; simp [go_sem]
theorem BoxT.a2 (h : BoxT a b c w wr) : wr.cell? ⟨w.heap.size, 2, none⟩ = some (.slice a.co a.l.length a.cc) := by
  rw [Below.cell h (p := ⟨w.heap.size, 2, none⟩) (show w.heap.size < w.heap.size + 3 by omega)]; simp [go_sem]
theorem BoxT.b0 (h : BoxT a b c w wr) : wr.cell? ⟨w.heap.size + 1, 0, none⟩ = some (.int .i64 b.seq) := by
  rw [Below.cell h (p := ⟨w.heap.size + 1, 0, none⟩) (show w.heap.size + 1 < w.heap.size + 3 by omega)]; simp [go_sem]
theorem BoxT.b1 (h : BoxT a b c w wr) : wr.cell? ⟨w.heap.size + 1, 1, none⟩ = some (.int .i64 b.tm) := by
  rw [Below.cell h (p := ⟨w.heap.size + 1, 1, none⟩) (show w.heap.size + 1 < w.heap.size + 3 by omega)]; simp [go_sem]
theorem BoxT.b2 (h : BoxT a b c w wr) : wr.cell? ⟨w.heap.size + 1, 2, none⟩ = some (.slice b.co b.l.length b.cc) := by
  rw [Below.cell h (p := ⟨w.heap.size + 1, 2, none⟩) (show w.heap.size + 1 < w.heap.size + 3 by omega)]; simp [go_sem]
theorem BoxT.c0 (h : BoxT a b c w wr) : wr.cell? ⟨w.heap.size + 2, 0, none⟩ = some (.int .i64 c.c.op) := by
  rw [Below.cell h (p := ⟨w.heap.size + 2, 0, none⟩) (show w.heap.size + 2 < w.heap.size + 3 by omega)]; simp [go_sem]
theorem BoxT.c1 (h : BoxT a b c w wr) : wr.cell? ⟨w.heap.size + 2, 1, none⟩ = some (.string (S c.c.tb)) := by
  rw [Below.cell h (p := ⟨w.heap.size + 2, 1, none⟩) (show w.heap.size + 2 < w.heap.size + 3 by omega)]; simp [go_sem]
theorem BoxT.c2 (h : BoxT a b c w wr) : wr.cell? ⟨w.heap.size + 2, 2, none⟩ = some (.slice c.ro c.c.row.length c.rc) := by
  rw [Below.cell h (p := ⟨w.heap.size + 2, 2, none⟩) (show w.heap.size + 2 < w.heap.size + 3 by omega)]; simp [go_sem]
theorem BoxT.c3 (h : BoxT a b c w wr) : wr.cell? ⟨w.heap.size + 2, 3, none⟩ = some (.int .i64 c.c.a) := by
  rw [Below.cell h (p := ⟨w.heap.size + 2, 3, none⟩) (show w.heap.size + 2 < w.heap.size + 3 by omega)]; simp [go_sem]
theorem BoxT.c4 (h : BoxT a b c w wr) : wr.cell? ⟨w.heap.size + 2, 4, none⟩ = some (.int .i64 c.c.z) := by
  rw [Below.cell h (p := ⟨w.heap.size + 2, 4, none⟩) (show w.heap.size + 2 < w.heap.size + 3 by omega)]; simp [go_sem]
theorem BoxT.c5 (h : BoxT a b c w wr) : wr.cell? ⟨w.heap.size + 2, 5, none⟩ = some (.string (S c.c.df.nm)) := by
  rw [Below.cell h (p := ⟨w.heap.size + 2, 5, none⟩) (show w.heap.size + 2 < w.heap.size + 3 by omega)]; simp [go_sem]
theorem BoxT.c6 (h : BoxT a b c w wr) : wr.cell? ⟨w.heap.size + 2, 6, none⟩ = some (.slice c.qo c.c.df.cols.length c.qc) := by
  rw [Below.cell h (p := ⟨w.heap.size + 2, 6, none⟩) (show w.heap.size + 2 < w.heap.size + 3 by omega)]; simp [go_sem]
theorem BoxT.c7 (h : BoxT a b c w wr) : wr.cell? ⟨w.heap.size + 2, 7, none⟩ = some (.int .i64 c.c.df.keys) := by
  rw [Below.cell h (p := ⟨w.heap.size + 2, 7, none⟩) (show w.heap.size + 2 < w.heap.size + 3 by omega)]; simp [go_sem]
end
theorem t_step {q : Nat} {wb : World} {a b : X} {c : M} {w1 w' : World} (h : w1.cell? ⟨q, 0, none⟩ = some (.int .i64 a.seq) ∧ w1.cell? ⟨q, 1, none⟩ = some (.int .i64 a.tm) ∧ w1.cell? ⟨q, 2, none⟩ = some (.slice a.co a.l.length a.cc) ∧ w1.cell? ⟨q + 1, 0, none⟩ = some (.int .i64 b.seq) ∧ w1.cell? ⟨q + 1, 1, none⟩ = some (.int .i64 b.tm) ∧ w1.cell? ⟨q + 1, 2, none⟩ = some (.slice b.co b.l.length b.cc) ∧ w1.cell? ⟨q + 2, 0, none⟩ = some (.int .i64 c.c.op) ∧ w1.cell? ⟨q + 2, 1, none⟩ = some (.string (S c.c.tb)) ∧ w1.cell? ⟨q + 2, 2, none⟩ = some (.slice c.ro c.c.row.length c.rc) ∧ w1.cell? ⟨q + 2, 3, none⟩ = some (.int .i64 c.c.a) ∧ w1.cell? ⟨q + 2, 4, none⟩ = some (.int .i64 c.c.z) ∧ w1.cell? ⟨q + 2, 5, none⟩ = some (.string (S c.c.df.nm)) ∧ w1.cell? ⟨q + 2, 6, none⟩ = some (.slice c.qo c.c.df.cols.length c.qc) ∧ w1.cell? ⟨q + 2, 7, none⟩ = some (.int .i64 c.c.df.keys) ∧ Below wb.heap.size wb w1 ∧ wb.heap.size ≤ w1.heap.size) (hb : Below w1.heap.size w1 w') : w'.cell? ⟨q, 0, none⟩ = some (.int .i64 a.seq) ∧ w'.cell? ⟨q, 1, none⟩ = some (.int .i64 a.tm) ∧ w'.cell? ⟨q, 2, none⟩ = some (.slice a.co a.l.length a.cc) ∧ w'.cell? ⟨q + 1, 0, none⟩ = some (.int .i64 b.seq) ∧ w'.cell? ⟨q + 1, 1, none⟩ = some (.int .i64 b.tm) ∧ w'.cell? ⟨q + 1, 2, none⟩ = some (.slice b.co b.l.length b.cc) ∧ w'.cell? ⟨q + 2, 0, none⟩ = some (.int .i64 c.c.op) ∧ w'.cell? ⟨q + 2, 1, none⟩ = some (.string (S c.c.tb)) ∧ w'.cell? ⟨q + 2, 2, none⟩ = some (.slice c.ro c.c.row.length c.rc) ∧ w'.cell? ⟨q + 2, 3, none⟩ = some (.int .i64 c.c.a) ∧ w'.cell? ⟨q + 2, 4, none⟩ = some (.int .i64 c.c.z) ∧ w'.cell? ⟨q + 2, 5, none⟩ = some (.string (S c.c.df.nm)) ∧ w'.cell? ⟨q + 2, 6, none⟩ = some (.slice c.qo c.c.df.cols.length c.qc) ∧ w'.cell? ⟨q + 2, 7, none⟩ = some (.int .i64 c.c.df.keys) ∧ Below wb.heap.size wb w' ∧ wb.heap.size ≤ w'.heap.size := by
  obtain ⟨c0, c1, c2, c3, c4, c5, c6, c7, c8, c9, c10, c11, c12, c13, hB, hz⟩ := h
  exact ⟨cell_later hb c0, cell_later hb c1, cell_later hb c2, cell_later hb c3, cell_later hb c4, cell_later hb c5, cell_later hb c6, cell_later hb c7, cell_later hb c8, cell_later hb c9, cell_later hb c10, cell_later hb c11, cell_later hb c12, cell_later hb c13, hB.trans (hb.mono hz), Nat.le_trans hz hb.size⟩
theorem lightc_is (c : M) (g : Nat) (w : World) (h : w.heap[g]? = some (.cells c.cells.toArray 32 (0, 0))) (hin : c.In w) (hi : InnM c) :
    Calls Tryz.prog 5 #[.agg #[.int .i64 0, .int .i64 0, .slice (some ⟨g, 0, none⟩) 1 1]] w fun e w' => e = .returned (.bool (litB [c])) ∧ Below w.heap.size w w' :=
  light_any ⟨0, 0, [c], some ⟨g, 0, none⟩, 1⟩ w (mone h hin) ⟨by show (-9223372036854775808 : Int) ≤ 0; decide, by show (0 : Int) ≤ 9223372036854775807; decide, by show (-9223372036854775808 : Int) ≤ 0; decide, by show (0 : Int) ≤ 9223372036854775807; decide, by show 1 ≤ 140737488351232; decide, fun m hm => by rw [List.mem_singleton.1 hm]; exact hi⟩
theorem lim_inn {c : Ch} (h : InnT c.df) (hl : Frm.Lit c) : Lim c.df := ⟨by have := h.nm; omega, fun d hd => by have := (h.cs d hd).nm; omega, by have := hl.n; omega⟩
set_option maxHeartbeats 8000000 in
set_option maxRecDepth 100000 in
theorem skip_a (a b : X) (c : M) (ia : InnX a) (ib : InnX b) (ic : InnM c) (hla : litB a.l = false) (w : World) (ha : a.In w) (hb : b.In w) (hc : c.In w) :
    Calls Tryz.prog 3 #[.agg #[.int .i64 a.seq, .int .i64 a.tm, .slice a.co a.l.length a.cc], .agg #[.int .i64 b.seq, .int .i64 b.tm, .slice b.co b.l.length b.cc], .agg #[.int .i64 c.c.op, .string (S c.c.tb), .slice c.ro c.c.row.length c.rc, .int .i64 c.c.a, .int .i64 c.c.z, .string (S c.c.df.nm), .slice c.qo c.c.df.cols.length c.qc, .int .i64 c.c.df.keys]] w fun e w' => e = .returned (.bool true) ∧ Below w.heap.size w w' := by
  have HA := hidm ha
  have HB := hidm hb
  have HC := hidm hc
  have IC := hidm ic
  have HS0 := hidm (BoxT.start a b c w)
  have CLA := hidm (fun (w1 : World) (h1 : Below w.heap.size w w1) => light_any a w1 (HA.out.later h1) ia)
  have CLB := hidm (fun (w1 : World) (h1 : Below w.heap.size w w1) => light_any b w1 (HB.out.later h1) ib)
  rw [hla] at CLA
  clear ha hb hc ia ib ic hla
  go_enter Tryz.func3, Tryz.ntmps3
  go_wp2_with fail
  refine (CLA.out _ HS0.out.below).mono ?_
  rintro e w1 ⟨rfl, hb⟩
  have HS1 := hidm (HS0.out.then hb)
  clear hb
  go_wp2_with fail
  refine (known_any _).mono ?_
  rintro e wK ⟨rfl, hb⟩
  have HSK := hidm (HS1.out.then hb)
  clear hb
  go_wp2_with fail
  go_ret
  exact ⟨rfl, HSK.out.below⟩
set_option maxHeartbeats 8000000 in
set_option maxRecDepth 100000 in
theorem skip_b (a b : X) (c : M) (ia : InnX a) (ib : InnX b) (ic : InnM c) (hla : litB a.l = true) (hlb : litB b.l = false) (w : World) (ha : a.In w) (hb : b.In w) (hc : c.In w) :
    Calls Tryz.prog 3 #[.agg #[.int .i64 a.seq, .int .i64 a.tm, .slice a.co a.l.length a.cc], .agg #[.int .i64 b.seq, .int .i64 b.tm, .slice b.co b.l.length b.cc], .agg #[.int .i64 c.c.op, .string (S c.c.tb), .slice c.ro c.c.row.length c.rc, .int .i64 c.c.a, .int .i64 c.c.z, .string (S c.c.df.nm), .slice c.qo c.c.df.cols.length c.qc, .int .i64 c.c.df.keys]] w fun e w' => e = .returned (.bool true) ∧ Below w.heap.size w w' := by
  have HA := hidm ha
  have HB := hidm hb
  have HC := hidm hc
  have IC := hidm ic
  have HS0 := hidm (BoxT.start a b c w)
  have CLA := hidm (fun (w1 : World) (h1 : Below w.heap.size w w1) => light_any a w1 (HA.out.later h1) ia)
  have CLB := hidm (fun (w1 : World) (h1 : Below w.heap.size w w1) => light_any b w1 (HB.out.later h1) ib)
  rw [hla] at CLA
  rw [hlb] at CLB
  clear ha hb hc ia ib ic hla hlb
  go_enter Tryz.func3, Tryz.ntmps3
  go_wp2_with fail
  refine (CLA.out _ HS0.out.below).mono ?_
  rintro e w1 ⟨rfl, hb⟩
  have HS1 := hidm (HS0.out.then hb)
  clear hb
  have b0 := HS1.out.b0
  have b1 := HS1.out.b1
  have b2 := HS1.out.b2
  go_wp2_with fail
  refine (CLB.out _ HS1.out.below).mono ?_
  rintro e w2 ⟨rfl, hb⟩
  have HS2 := hidm (HS1.out.then hb)
  clear hb
  clear b0 b1 b2
  go_wp2_with fail
  refine (known_any _).mono ?_
  rintro e wK ⟨rfl, hb⟩
  have HSK := hidm (HS2.out.then hb)
  clear hb
  go_wp2_with fail
  go_ret
  exact ⟨rfl, HSK.out.below⟩
set_option maxHeartbeats 8000000 in
set_option maxRecDepth 100000 in
theorem skip_c (a b : X) (c : M) (ia : InnX a) (ib : InnX b) (ic : InnM c) (hla : litB a.l = true) (hlb : litB b.l = true) (hlc : litB [c] = false) (w : World) (ha : a.In w) (hb : b.In w) (hc : c.In w) :
    Calls Tryz.prog 3 #[.agg #[.int .i64 a.seq, .int .i64 a.tm, .slice a.co a.l.length a.cc], .agg #[.int .i64 b.seq, .int .i64 b.tm, .slice b.co b.l.length b.cc], .agg #[.int .i64 c.c.op, .string (S c.c.tb), .slice c.ro c.c.row.length c.rc, .int .i64 c.c.a, .int .i64 c.c.z, .string (S c.c.df.nm), .slice c.qo c.c.df.cols.length c.qc, .int .i64 c.c.df.keys]] w fun e w' => e = .returned (.bool true) ∧ Below w.heap.size w w' := by
  have HA := hidm ha
  have HB := hidm hb
  have HC := hidm hc
  have IC := hidm ic
  have HS0 := hidm (BoxT.start a b c w)
  have CLA := hidm (fun (w1 : World) (h1 : Below w.heap.size w w1) => light_any a w1 (HA.out.later h1) ia)
  have CLB := hidm (fun (w1 : World) (h1 : Below w.heap.size w w1) => light_any b w1 (HB.out.later h1) ib)
  rw [hla] at CLA
  rw [hlb] at CLB
  have HLC := hidm hlc
  clear ha hb hc ia ib ic hla hlb hlc
  go_enter Tryz.func3, Tryz.ntmps3
  go_wp2_with fail
  refine (CLA.out _ HS0.out.below).mono ?_
  rintro e w1 ⟨rfl, hb⟩
  have HS1 := hidm (HS0.out.then hb)
  clear hb
  have b0 := HS1.out.b0
  have b1 := HS1.out.b1
  have b2 := HS1.out.b2
  go_wp2_with fail
  refine (CLB.out _ HS1.out.below).mono ?_
  rintro e w2 ⟨rfl, hb⟩
  have HS2 := hidm (HS1.out.then hb)
  clear hb
  clear b0 b1 b2
  have c0 := HS2.out.c0
  have c1 := HS2.out.c1
  have c2 := HS2.out.c2
  have c3 := HS2.out.c3
  have c4 := HS2.out.c4
  have c5 := HS2.out.c5
  have c6 := HS2.out.c6
  have c7 := HS2.out.c7
  have hal : Below w2.heap.size w2 (w2.alloc (.cells #[.int .i64 c.c.op, .string (S c.c.tb), .slice c.ro c.c.row.length c.rc, .int .i64 c.c.a, .int .i64 c.c.z, .string (S c.c.df.nm), .slice c.qo c.c.df.cols.length c.qc, .int .i64 c.c.df.keys] 32)) := (Below.refl _ _).alloc (Nat.le_refl _) _
  have CLC := hidm (lightc_is c w2.heap.size _ (heap_alloc_last w2 (.cells #[.int .i64 c.c.op, .string (S c.c.tb), .slice c.ro c.c.row.length c.rc, .int .i64 c.c.a, .int .i64 c.c.z, .string (S c.c.df.nm), .slice c.qo c.c.df.cols.length c.qc, .int .i64 c.c.df.keys] 32)) (HC.out.later (HS2.out.then hal).below) IC.out)
  rw [HLC.out] at CLC
  have HSA := hidm (HS2.out.then hal)
  clear hal
  go_wp2_with fail
  refine (CLC.out).mono ?_
  rintro e w3 ⟨rfl, hb⟩
  have HS3 := hidm (HSA.out.then hb)
  clear hb
  clear c0 c1 c2 c3 c4 c5 c6 c7
  go_wp2_with fail
  refine (known_any _).mono ?_
  rintro e wK ⟨rfl, hb⟩
  have HSK := hidm (HS3.out.then hb)
  clear hb
  go_wp2_with fail
  go_ret
  exact ⟨rfl, HSK.out.below⟩
set_option maxHeartbeats 8000000 in
set_option maxRecDepth 100000 in
theorem main_any (a b : X) (c : M) (ia : InnX a) (ib : InnX b) (ic : InnM c) (hla : litB a.l = true) (hlb : litB b.l = true) (hlc : litB [c] = true) (w : World) (ha : a.In w) (hb : b.In w) (hc : c.In w) :
    Calls Tryz.prog 3 #[.agg #[.int .i64 a.seq, .int .i64 a.tm, .slice a.co a.l.length a.cc], .agg #[.int .i64 b.seq, .int .i64 b.tm, .slice b.co b.l.length b.cc], .agg #[.int .i64 c.c.op, .string (S c.c.tb), .slice c.ro c.c.row.length c.rc, .int .i64 c.c.a, .int .i64 c.c.z, .string (S c.c.df.nm), .slice c.qo c.c.df.cols.length c.qc, .int .i64 c.c.df.keys]] w fun e w' => e = .returned (.bool true) ∧ Below w.heap.size w w' := by
  have HA := hidm ha
  have HB := hidm hb
  have HC := hidm hc
  have IC := hidm ic
  have HS0 := hidm (BoxT.start a b c w)
  have CLA := hidm (fun (w1 : World) (h1 : Below w.heap.size w w1) => light_any a w1 (HA.out.later h1) ia)
  have CLB := hidm (fun (w1 : World) (h1 : Below w.heap.size w w1) => light_any b w1 (HB.out.later h1) ib)
  rw [hla] at CLA
  rw [hlb] at CLB
  have HLC := hidm hlc
  have LA := lit_x hla ia
  have LB := lit_x hlb ib
  have PA := (lit_parts hla).2
  have PC : Frm.Lit c.c := (lit_parts hlc).2 c (List.mem_singleton.2 rfl)
  have DA : ∀ m ∈ a.l, Lim m.c.df := fun m hm => lim_inn (ia.l m hm).df (PA m hm)
  have VA : ∀ m ∈ a.l, ∀ v ∈ m.c.row, v.b < 18446744073709551616 := fun m hm v hv => ((ia.l m hm).row v hv).i.b
  obtain ⟨ra, hra⟩ : ∃ p, txB a.tx = p := ⟨_, rfl⟩
  obtain ⟨rc, hrc⟩ : ∃ p, chB c.c = p := ⟨_, rfl⟩
  obtain ⟨ba, hba⟩ : ∃ p, bodyR a.tx = p := ⟨_, rfl⟩
  obtain ⟨ea, hea⟩ : ∃ p, encT a.tx = p := ⟨_, rfl⟩
  obtain ⟨sm, hsm⟩ : ∃ p, decide (a.tx = b.tx) = p := ⟨_, rfl⟩
  have K1 := hidm (show ∀ (w1 : World) (_ : Below w.heap.size w w1), Calls Tryz.prog 7 #[.agg #[.int .i64 a.seq, .int .i64 a.tm, .slice a.co a.l.length a.cc]] w1 fun e w' => e = .returned (.bool ra) ∧ Below w1.heap.size w1 w' from fun w1 h1 => txright_is hra LA.n LA.lm w1 (HA.out.later h1))
  have K2 := hidm (show ∀ (w1 : World) (_ : Below w.heap.size w w1), Calls Tryz.prog 8 #[.agg #[.int .i64 a.seq, .int .i64 a.tm, .slice a.co a.l.length a.cc]] w1 fun e w' => e = .returned (.bool ra) ∧ Below w1.heap.size w1 w' from fun w1 h1 => rtxright_is hra LA.lm DA VA w1 (HA.out.later h1))
  have K3 := hidm (show ∀ (w1 : World) (_ : Below w.heap.size w w1), Calls Tryz.prog 9 #[.agg #[.int .i64 c.c.op, .string (S c.c.tb), .slice c.ro c.c.row.length c.rc, .int .i64 c.c.a, .int .i64 c.c.z, .string (S c.c.df.nm), .slice c.qo c.c.df.cols.length c.qc, .int .i64 c.c.df.keys]] w1 fun e w' => e = .returned (.bool rc) ∧ Below w1.heap.size w1 w' from fun w1 h1 => change_is hrc PC.lim w1 (HC.out.later h1))
  have K4 := hidm (show ∀ (w1 : World) (_ : Below w.heap.size w w1), Calls Tryz.prog 10 #[.agg #[.int .i64 c.c.op, .string (S c.c.tb), .slice c.ro c.c.row.length c.rc, .int .i64 c.c.a, .int .i64 c.c.z, .string (S c.c.df.nm), .slice c.qo c.c.df.cols.length c.qc, .int .i64 c.c.df.keys]] w1 fun e w' => e = .returned (.bool rc) ∧ Below w1.heap.size w1 w' from fun w1 h1 => rchange_is hrc PC.lim (lim_inn ic.df PC) (fun v hv => (ic.row v hv).i.b) w1 (HC.out.later h1))
  have K5 := hidm (show ∀ (w1 : World) (_ : Below w.heap.size w w1), Calls Tryz.prog 11 #[.agg #[.int .i64 a.seq, .int .i64 a.tm, .slice a.co a.l.length a.cc]] w1 fun e w' => e = .returned (.string (S ba)) ∧ Below w1.heap.size w1 w' from fun w1 h1 => hba ▸ bodyr_any LA.n LA.lm LA.wf w1 (HA.out.later h1))
  have K6 := hidm (show ∀ (w1 : World) (_ : Below w.heap.size w w1), Calls Tryz.prog 12 #[.agg #[.int .i64 a.seq, .int .i64 a.tm, .slice a.co a.l.length a.cc]] w1 fun e w' => e = .returned (.string (S ba)) ∧ Below w1.heap.size w1 w' from fun w1 h1 => rbody_is hba LA.lm DA VA LA.wf w1 (HA.out.later h1))
  have K7 := hidm (show ∀ (w1 : World) (_ : Below w.heap.size w w1), Calls Tryz.prog 13 #[.agg #[.int .i64 a.seq, .int .i64 a.tm, .slice a.co a.l.length a.cc]] w1 fun e w' => e = .returned (.string (S ea)) ∧ Below w1.heap.size w1 w' from fun w1 h1 => hea ▸ fenc_any LA.n LA.lm LA.wf w1 (HA.out.later h1))
  have K8 := hidm (show ∀ (w1 : World) (_ : Below w.heap.size w w1), Calls Tryz.prog 14 #[.agg #[.int .i64 a.seq, .int .i64 a.tm, .slice a.co a.l.length a.cc]] w1 fun e w' => e = .returned (.string (S ea)) ∧ Below w1.heap.size w1 w' from fun w1 h1 => rencode6_is hea LA.lm DA VA LA.wf w1 (HA.out.later h1))
  have K9 := hidm (show ∀ (w1 : World) (_ : Below w.heap.size w w1), Calls Tryz.prog 15 #[.agg #[.int .i64 a.seq, .int .i64 a.tm, .slice a.co a.l.length a.cc], .agg #[.int .i64 b.seq, .int .i64 b.tm, .slice b.co b.l.length b.cc]] w1 fun e w' => e = .returned (.bool sm) ∧ Below w1.heap.size w1 w' from fun w1 h1 => fsame_is hsm LA.lm LB.lm w1 (HA.out.later h1) (HB.out.later h1))
  have K10 := hidm (show ∀ (w1 : World) (_ : Below w.heap.size w w1), Calls Tryz.prog 16 #[.agg #[.int .i64 a.seq, .int .i64 a.tm, .slice a.co a.l.length a.cc], .agg #[.int .i64 b.seq, .int .i64 b.tm, .slice b.co b.l.length b.cc]] w1 fun e w' => e = .returned (.bool sm) ∧ Below w1.heap.size w1 w' from fun w1 h1 => by have h := rtsame_any a b LA.lm LB.lm w1 (HA.out.later h1) (HB.out.later h1); rw [hsm] at h; exact h)
  clear ha hb hc ia ib ic hla hlb hlc LA LB PA PC DA VA hra hrc hba hea hsm
  go_enter Tryz.func3, Tryz.ntmps3
  go_wp2_with fail
  refine (CLA.out _ HS0.out.below).mono ?_
  rintro e w1 ⟨rfl, hb⟩
  have HS1 := hidm (HS0.out.then hb)
  clear hb
  have b0 := HS1.out.b0
  have b1 := HS1.out.b1
  have b2 := HS1.out.b2
  go_wp2_with fail
  refine (CLB.out _ HS1.out.below).mono ?_
  rintro e w2 ⟨rfl, hb⟩
  have HS2 := hidm (HS1.out.then hb)
  clear hb
  clear b0 b1 b2
  have c0 := HS2.out.c0
  have c1 := HS2.out.c1
  have c2 := HS2.out.c2
  have c3 := HS2.out.c3
  have c4 := HS2.out.c4
  have c5 := HS2.out.c5
  have c6 := HS2.out.c6
  have c7 := HS2.out.c7
  have hal : Below w2.heap.size w2 (w2.alloc (.cells #[.int .i64 c.c.op, .string (S c.c.tb), .slice c.ro c.c.row.length c.rc, .int .i64 c.c.a, .int .i64 c.c.z, .string (S c.c.df.nm), .slice c.qo c.c.df.cols.length c.qc, .int .i64 c.c.df.keys] 32)) := (Below.refl _ _).alloc (Nat.le_refl _) _
  have CLC := hidm (lightc_is c w2.heap.size _ (heap_alloc_last w2 (.cells #[.int .i64 c.c.op, .string (S c.c.tb), .slice c.ro c.c.row.length c.rc, .int .i64 c.c.a, .int .i64 c.c.z, .string (S c.c.df.nm), .slice c.qo c.c.df.cols.length c.qc, .int .i64 c.c.df.keys] 32)) (HC.out.later (HS2.out.then hal).below) IC.out)
  rw [HLC.out] at CLC
  have HSA := hidm (HS2.out.then hal)
  clear hal
  go_wp2_with fail
  refine (CLC.out).mono ?_
  rintro e w3 ⟨rfl, hb⟩
  have HS3 := hidm (HSA.out.then hb)
  clear hb
  clear c0 c1 c2 c3 c4 c5 c6 c7
  have SS0 := hidm (show w3.cell? ⟨w.heap.size, 0, none⟩ = some (.int .i64 a.seq) ∧ w3.cell? ⟨w.heap.size, 1, none⟩ = some (.int .i64 a.tm) ∧ w3.cell? ⟨w.heap.size, 2, none⟩ = some (.slice a.co a.l.length a.cc) ∧ w3.cell? ⟨w.heap.size + 1, 0, none⟩ = some (.int .i64 b.seq) ∧ w3.cell? ⟨w.heap.size + 1, 1, none⟩ = some (.int .i64 b.tm) ∧ w3.cell? ⟨w.heap.size + 1, 2, none⟩ = some (.slice b.co b.l.length b.cc) ∧ w3.cell? ⟨w.heap.size + 2, 0, none⟩ = some (.int .i64 c.c.op) ∧ w3.cell? ⟨w.heap.size + 2, 1, none⟩ = some (.string (S c.c.tb)) ∧ w3.cell? ⟨w.heap.size + 2, 2, none⟩ = some (.slice c.ro c.c.row.length c.rc) ∧ w3.cell? ⟨w.heap.size + 2, 3, none⟩ = some (.int .i64 c.c.a) ∧ w3.cell? ⟨w.heap.size + 2, 4, none⟩ = some (.int .i64 c.c.z) ∧ w3.cell? ⟨w.heap.size + 2, 5, none⟩ = some (.string (S c.c.df.nm)) ∧ w3.cell? ⟨w.heap.size + 2, 6, none⟩ = some (.slice c.qo c.c.df.cols.length c.qc) ∧ w3.cell? ⟨w.heap.size + 2, 7, none⟩ = some (.int .i64 c.c.df.keys) ∧ Below w3.heap.size w3 w3 ∧ w3.heap.size ≤ w3.heap.size from ⟨HS3.out.a0, HS3.out.a1, HS3.out.a2, HS3.out.b0, HS3.out.b1, HS3.out.b2, HS3.out.c0, HS3.out.c1, HS3.out.c2, HS3.out.c3, HS3.out.c4, HS3.out.c5, HS3.out.c6, HS3.out.c7, Below.refl _ _, Nat.le_refl _⟩)
  have z1 : (ra == ra) = true := by simp
  have z2 : (rc == rc) = true := by simp
  have z3 : (sm == sm) = true := by simp
  have z4 : (ba == ba) = true := by simp
  have z5 : (ea == ea) = true := by simp
  go_wp2_with fail
  refine wp_region_held_drew (S := fun u => u.cell? ⟨w.heap.size, 0, none⟩ = some (.int .i64 a.seq) ∧ u.cell? ⟨w.heap.size, 1, none⟩ = some (.int .i64 a.tm) ∧ u.cell? ⟨w.heap.size, 2, none⟩ = some (.slice a.co a.l.length a.cc) ∧ u.cell? ⟨w.heap.size + 1, 0, none⟩ = some (.int .i64 b.seq) ∧ u.cell? ⟨w.heap.size + 1, 1, none⟩ = some (.int .i64 b.tm) ∧ u.cell? ⟨w.heap.size + 1, 2, none⟩ = some (.slice b.co b.l.length b.cc) ∧ u.cell? ⟨w.heap.size + 2, 0, none⟩ = some (.int .i64 c.c.op) ∧ u.cell? ⟨w.heap.size + 2, 1, none⟩ = some (.string (S c.c.tb)) ∧ u.cell? ⟨w.heap.size + 2, 2, none⟩ = some (.slice c.ro c.c.row.length c.rc) ∧ u.cell? ⟨w.heap.size + 2, 3, none⟩ = some (.int .i64 c.c.a) ∧ u.cell? ⟨w.heap.size + 2, 4, none⟩ = some (.int .i64 c.c.z) ∧ u.cell? ⟨w.heap.size + 2, 5, none⟩ = some (.string (S c.c.df.nm)) ∧ u.cell? ⟨w.heap.size + 2, 6, none⟩ = some (.slice c.qo c.c.df.cols.length c.qc) ∧ u.cell? ⟨w.heap.size + 2, 7, none⟩ = some (.int .i64 c.c.df.keys) ∧ Below w3.heap.size w3 u ∧ w3.heap.size ≤ u.heap.size) (by kernel_rfl) ?_ (fun hHeld => ?_)
  · exact t_step SS0.out ((Below.refl _ _).drew)
  refine Man.take1 (i := 0) (v := ?_) rfl (by kernel_rfl) (by kernel_rfl) (by kernel_rfl) (fun _ _ _ h => h) (by rfl) ?_ (by assumption) ?_
  rotate_left
  · (intro u hSu; (try dsimp only at hSu); go_simp; (try with_reducible rfl))
  (try simp only [Act.put, List.setIfInBounds_toArray, List.set_cons_zero, List.set_cons_succ])
  refine Man.take1 (i := 2) (v := ?_) rfl (by kernel_rfl) (by kernel_rfl) (by kernel_rfl) (fun _ _ _ h => h) (by rfl) ?_ (by assumption) ?_
  rotate_left
  · (intro u hSu; (try dsimp only at hSu); go_simp; (try with_reducible rfl))
  (try simp only [Act.put, List.setIfInBounds_toArray, List.set_cons_zero, List.set_cons_succ])
  refine Man.one (i := 1) rfl (by kernel_rfl) (fun K hK => ?_)
  go_simp
  (go_at_call 7; (with_reducible refine (K1.out _ (HS3.out.below.trans (hHeld.2.2.2.2.2.2.2.2.2.2.2.2.2.2.1.mono HS3.out.below.size))).mono ?_); rintro e w' ⟨rfl, hb⟩)
  refine hK.out _ _ ?_ (fun hNew => ?_)
  · exact t_step hHeld hb
  clear hHeld hK K hb
  have hHeld := hNew
  clear hNew
  (try simp only [Act.put, List.setIfInBounds_toArray, List.set_cons_zero, List.set_cons_succ])
  refine Man.one (i := 3) rfl (by kernel_rfl) (fun K hK => ?_)
  go_simp
  (go_at_call 8; (with_reducible refine (K2.out _ (HS3.out.below.trans (hHeld.2.2.2.2.2.2.2.2.2.2.2.2.2.2.1.mono HS3.out.below.size))).mono ?_); rintro e w' ⟨rfl, hb⟩)
  refine hK.out _ _ ?_ (fun hNew => ?_)
  · exact t_step hHeld hb
  clear hHeld hK K hb
  have hHeld := hNew
  clear hNew
  (try simp only [Act.put, List.setIfInBounds_toArray, List.set_cons_zero, List.set_cons_succ])
  refine Man.take1 (i := 4) (v := ?_) rfl (by kernel_rfl) (by kernel_rfl) (by kernel_rfl) (fun _ _ _ h => h) (by rfl) ?_ (by assumption) ?_
  rotate_left
  · (intro u hSu; (try dsimp only at hSu); go_simp; (try with_reducible rfl))
  (try simp only [Act.put, List.setIfInBounds_toArray, List.set_cons_zero, List.set_cons_succ])
  refine Man.take1 (i := 5) (v := ?_) rfl (by kernel_rfl) (by kernel_rfl) (by kernel_rfl) (fun _ _ _ h => h) (by rfl) ?_ (by assumption) ?_
  rotate_left
  · (intro u hSu; (try dsimp only at hSu); go_simp; (try with_reducible rfl))
  (try simp only [Act.put, List.setIfInBounds_toArray, List.set_cons_zero, List.set_cons_succ])
  refine Man.take1 (i := 6) (v := ?_) rfl (by kernel_rfl) (by kernel_rfl) (by kernel_rfl) (fun _ _ _ h => h) (by rfl) ?_ (by assumption) ?_
  rotate_left
  · (intro u hSu; (try dsimp only at hSu); go_simp; (try with_reducible rfl))
  (try simp only [Act.put, List.setIfInBounds_toArray, List.set_cons_zero, List.set_cons_succ])
  refine Man.take1 (i := 8) (v := ?_) rfl (by kernel_rfl) (by kernel_rfl) (by kernel_rfl) (fun _ _ _ h => h) (by rfl) ?_ (by assumption) ?_
  rotate_left
  · (intro u hSu; (try dsimp only at hSu); go_simp; (try with_reducible rfl))
  (try simp only [Act.put, List.setIfInBounds_toArray, List.set_cons_zero, List.set_cons_succ])
  refine Man.one (i := 7) rfl (by kernel_rfl) (fun K hK => ?_)
  go_simp
  (go_at_call 9; (with_reducible refine (K3.out _ (HS3.out.below.trans (hHeld.2.2.2.2.2.2.2.2.2.2.2.2.2.2.1.mono HS3.out.below.size))).mono ?_); rintro e w' ⟨rfl, hb⟩)
  refine hK.out _ _ ?_ (fun hNew => ?_)
  · exact t_step hHeld hb
  clear hHeld hK K hb
  have hHeld := hNew
  clear hNew
  (try simp only [Act.put, List.setIfInBounds_toArray, List.set_cons_zero, List.set_cons_succ])
  refine Man.one (i := 9) rfl (by kernel_rfl) (fun K hK => ?_)
  go_simp
  (go_at_call 10; (with_reducible refine (K4.out _ (HS3.out.below.trans (hHeld.2.2.2.2.2.2.2.2.2.2.2.2.2.2.1.mono HS3.out.below.size))).mono ?_); rintro e w' ⟨rfl, hb⟩)
  refine hK.out _ _ ?_ (fun hNew => ?_)
  · exact t_step hHeld hb
  clear hHeld hK K hb
  have hHeld := hNew
  clear hNew
  (try simp only [Act.put, List.setIfInBounds_toArray, List.set_cons_zero, List.set_cons_succ])
  refine Man.take1 (i := 10) (v := ?_) rfl (by kernel_rfl) (by kernel_rfl) (by kernel_rfl) (fun _ _ _ h => h) (by rfl) ?_ (by assumption) ?_
  rotate_left
  · (intro u hSu; (try dsimp only at hSu); go_simp; (try with_reducible rfl))
  (try simp only [Act.put, List.setIfInBounds_toArray, List.set_cons_zero, List.set_cons_succ])
  refine Man.take1 (i := 11) (v := ?_) rfl (by kernel_rfl) (by kernel_rfl) (by kernel_rfl) (fun _ _ _ h => h) (by rfl) ?_ (by assumption) ?_
  rotate_left
  · (intro u hSu; (try dsimp only at hSu); go_simp; (try with_reducible rfl))
  (try simp only [Act.put, List.setIfInBounds_toArray, List.set_cons_zero, List.set_cons_succ])
  refine Man.take1 (i := 12) (v := ?_) rfl (by kernel_rfl) (by kernel_rfl) (by kernel_rfl) (fun _ _ _ h => h) (by rfl) ?_ (by assumption) ?_
  rotate_left
  · (intro u hSu; (try dsimp only at hSu); go_simp; (try with_reducible rfl))
  (try simp only [Act.put, List.setIfInBounds_toArray, List.set_cons_zero, List.set_cons_succ])
  refine Man.take1 (i := 13) (v := ?_) rfl (by kernel_rfl) (by kernel_rfl) (by kernel_rfl) (fun _ _ _ h => h) (by rfl) ?_ (by assumption) ?_
  rotate_left
  · (intro u hSu; (try dsimp only at hSu); go_simp; (try with_reducible rfl))
  (try simp only [Act.put, List.setIfInBounds_toArray, List.set_cons_zero, List.set_cons_succ])
  refine Man.take1 (i := 15) (v := ?_) rfl (by kernel_rfl) (by kernel_rfl) (by kernel_rfl) (fun _ _ _ h => h) (by rfl) ?_ (by assumption) ?_
  rotate_left
  · (intro u hSu; (try dsimp only at hSu); go_simp; (try with_reducible rfl))
  (try simp only [Act.put, List.setIfInBounds_toArray, List.set_cons_zero, List.set_cons_succ])
  refine Man.one (i := 14) rfl (by kernel_rfl) (fun K hK => ?_)
  go_simp
  (go_at_call 11; (with_reducible refine (K5.out _ (HS3.out.below.trans (hHeld.2.2.2.2.2.2.2.2.2.2.2.2.2.2.1.mono HS3.out.below.size))).mono ?_); rintro e w' ⟨rfl, hb⟩)
  refine hK.out _ _ ?_ (fun hNew => ?_)
  · exact t_step hHeld hb
  clear hHeld hK K hb
  have hHeld := hNew
  clear hNew
  (try simp only [Act.put, List.setIfInBounds_toArray, List.set_cons_zero, List.set_cons_succ])
  refine Man.one (i := 16) rfl (by kernel_rfl) (fun K hK => ?_)
  go_simp
  (go_at_call 12; (with_reducible refine (K6.out _ (HS3.out.below.trans (hHeld.2.2.2.2.2.2.2.2.2.2.2.2.2.2.1.mono HS3.out.below.size))).mono ?_); rintro e w' ⟨rfl, hb⟩)
  refine hK.out _ _ ?_ (fun hNew => ?_)
  · exact t_step hHeld hb
  clear hHeld hK K hb
  have hHeld := hNew
  clear hNew
  (try simp only [Act.put, List.setIfInBounds_toArray, List.set_cons_zero, List.set_cons_succ])
  refine Man.take1 (i := 17) (v := ?_) rfl (by kernel_rfl) (by kernel_rfl) (by kernel_rfl) (fun _ _ _ h => h) (by rfl) ?_ (by assumption) ?_
  rotate_left
  · (intro u hSu; (try dsimp only at hSu); go_simp; (try with_reducible rfl))
  (try simp only [Act.put, List.setIfInBounds_toArray, List.set_cons_zero, List.set_cons_succ])
  refine Man.take1 (i := 18) (v := ?_) rfl (by kernel_rfl) (by kernel_rfl) (by kernel_rfl) (fun _ _ _ h => h) (by rfl) ?_ (by assumption) ?_
  rotate_left
  · (intro u hSu; (try dsimp only at hSu); go_simp; (try with_reducible rfl))
  (try simp only [Act.put, List.setIfInBounds_toArray, List.set_cons_zero, List.set_cons_succ])
  refine Man.take1 (i := 19) (v := ?_) rfl (by kernel_rfl) (by kernel_rfl) (by kernel_rfl) (fun _ _ _ h => h) (by rfl) ?_ (by assumption) ?_
  rotate_left
  · (intro u hSu; (try dsimp only at hSu); go_simp; (try with_reducible rfl))
  (try simp only [Act.put, List.setIfInBounds_toArray, List.set_cons_zero, List.set_cons_succ])
  refine Man.take1 (i := 20) (v := ?_) rfl (by kernel_rfl) (by kernel_rfl) (by kernel_rfl) (fun _ _ _ h => h) (by rfl) ?_ (by assumption) ?_
  rotate_left
  · (intro u hSu; (try dsimp only at hSu); go_simp; (try with_reducible rfl))
  (try simp only [Act.put, List.setIfInBounds_toArray, List.set_cons_zero, List.set_cons_succ])
  refine Man.take1 (i := 22) (v := ?_) rfl (by kernel_rfl) (by kernel_rfl) (by kernel_rfl) (fun _ _ _ h => h) (by rfl) ?_ (by assumption) ?_
  rotate_left
  · (intro u hSu; (try dsimp only at hSu); go_simp; (try with_reducible rfl))
  (try simp only [Act.put, List.setIfInBounds_toArray, List.set_cons_zero, List.set_cons_succ])
  refine Man.one (i := 21) rfl (by kernel_rfl) (fun K hK => ?_)
  go_simp
  (go_at_call 13; (with_reducible refine (K7.out _ (HS3.out.below.trans (hHeld.2.2.2.2.2.2.2.2.2.2.2.2.2.2.1.mono HS3.out.below.size))).mono ?_); rintro e w' ⟨rfl, hb⟩)
  refine hK.out _ _ ?_ (fun hNew => ?_)
  · exact t_step hHeld hb
  clear hHeld hK K hb
  have hHeld := hNew
  clear hNew
  (try simp only [Act.put, List.setIfInBounds_toArray, List.set_cons_zero, List.set_cons_succ])
  refine Man.one (i := 23) rfl (by kernel_rfl) (fun K hK => ?_)
  go_simp
  (go_at_call 14; (with_reducible refine (K8.out _ (HS3.out.below.trans (hHeld.2.2.2.2.2.2.2.2.2.2.2.2.2.2.1.mono HS3.out.below.size))).mono ?_); rintro e w' ⟨rfl, hb⟩)
  refine hK.out _ _ ?_ (fun hNew => ?_)
  · exact t_step hHeld hb
  clear hHeld hK K hb
  have hHeld := hNew
  clear hNew
  (try simp only [Act.put, List.setIfInBounds_toArray, List.set_cons_zero, List.set_cons_succ])
  refine Man.take1 (i := 24) (v := ?_) rfl (by kernel_rfl) (by kernel_rfl) (by kernel_rfl) (fun _ _ _ h => h) (by rfl) ?_ (by assumption) ?_
  rotate_left
  · (intro u hSu; (try dsimp only at hSu); go_simp; (try with_reducible rfl))
  (try simp only [Act.put, List.setIfInBounds_toArray, List.set_cons_zero, List.set_cons_succ])
  refine Man.take1 (i := 25) (v := ?_) rfl (by kernel_rfl) (by kernel_rfl) (by kernel_rfl) (fun _ _ _ h => h) (by rfl) ?_ (by assumption) ?_
  rotate_left
  · (intro u hSu; (try dsimp only at hSu); go_simp; (try with_reducible rfl))
  (try simp only [Act.put, List.setIfInBounds_toArray, List.set_cons_zero, List.set_cons_succ])
  refine Man.take1 (i := 26) (v := ?_) rfl (by kernel_rfl) (by kernel_rfl) (by kernel_rfl) (fun _ _ _ h => h) (by rfl) ?_ (by assumption) ?_
  rotate_left
  · (intro u hSu; (try dsimp only at hSu); go_simp; (try with_reducible rfl))
  (try simp only [Act.put, List.setIfInBounds_toArray, List.set_cons_zero, List.set_cons_succ])
  refine Man.take1 (i := 27) (v := ?_) rfl (by kernel_rfl) (by kernel_rfl) (by kernel_rfl) (fun _ _ _ h => h) (by rfl) ?_ (by assumption) ?_
  rotate_left
  · (intro u hSu; (try dsimp only at hSu); go_simp; (try with_reducible rfl))
  (try simp only [Act.put, List.setIfInBounds_toArray, List.set_cons_zero, List.set_cons_succ])
  refine Man.take1 (i := 28) (v := ?_) rfl (by kernel_rfl) (by kernel_rfl) (by kernel_rfl) (fun _ _ _ h => h) (by rfl) ?_ (by assumption) ?_
  rotate_left
  · (intro u hSu; (try dsimp only at hSu); go_simp; (try with_reducible rfl))
  (try simp only [Act.put, List.setIfInBounds_toArray, List.set_cons_zero, List.set_cons_succ])
  refine Man.take1 (i := 30) (v := ?_) rfl (by kernel_rfl) (by kernel_rfl) (by kernel_rfl) (fun _ _ _ h => h) (by rfl) ?_ (by assumption) ?_
  rotate_left
  · (intro u hSu; (try dsimp only at hSu); go_simp; (try with_reducible rfl))
  (try simp only [Act.put, List.setIfInBounds_toArray, List.set_cons_zero, List.set_cons_succ])
  refine Man.take1 (i := 31) (v := ?_) rfl (by kernel_rfl) (by kernel_rfl) (by kernel_rfl) (fun _ _ _ h => h) (by rfl) ?_ (by assumption) ?_
  rotate_left
  · (intro u hSu; (try dsimp only at hSu); go_simp; (try with_reducible rfl))
  (try simp only [Act.put, List.setIfInBounds_toArray, List.set_cons_zero, List.set_cons_succ])
  refine Man.one (i := 29) rfl (by kernel_rfl) (fun K hK => ?_)
  go_simp
  (go_at_call 15; (with_reducible refine (K9.out _ (HS3.out.below.trans (hHeld.2.2.2.2.2.2.2.2.2.2.2.2.2.2.1.mono HS3.out.below.size))).mono ?_); rintro e w' ⟨rfl, hb⟩)
  refine hK.out _ _ ?_ (fun hNew => ?_)
  · exact t_step hHeld hb
  clear hHeld hK K hb
  have hHeld := hNew
  clear hNew
  (try simp only [Act.put, List.setIfInBounds_toArray, List.set_cons_zero, List.set_cons_succ])
  refine Man.one (i := 32) rfl (by kernel_rfl) (fun K hK => ?_)
  go_simp
  (go_at_call 16; (with_reducible refine (K10.out _ (HS3.out.below.trans (hHeld.2.2.2.2.2.2.2.2.2.2.2.2.2.2.1.mono HS3.out.below.size))).mono ?_); rintro e w' ⟨rfl, hb⟩)
  refine hK.out _ _ ?_ (fun hNew => ?_)
  · exact t_step hHeld hb
  clear hHeld hK K hb
  have hHeld := hNew
  clear hNew
  (try simp only [Act.put, List.setIfInBounds_toArray, List.set_cons_zero, List.set_cons_succ])
  refine Man.take1 (i := 33) (v := ?_) rfl (by kernel_rfl) (by kernel_rfl) (by kernel_rfl) (fun _ _ _ h => h) (by rfl) ?_ (by assumption) ?_
  rotate_left
  · (intro u hSu; (try dsimp only at hSu); go_simp; (try with_reducible rfl))
  (try simp only [Act.put, List.setIfInBounds_toArray, List.set_cons_zero, List.set_cons_succ])
  refine Man.take1 (i := 34) (v := ?_) rfl (by kernel_rfl) (by kernel_rfl) (by kernel_rfl) (fun _ _ _ h => h) (by rfl) ?_ (by assumption) ?_
  rotate_left
  · (intro u hSu; (try dsimp only at hSu); go_simp; (try with_reducible rfl))
  (try simp only [Act.put, List.setIfInBounds_toArray, List.set_cons_zero, List.set_cons_succ])
  refine Man.take1 (i := 35) (v := ?_) rfl (by kernel_rfl) (by kernel_rfl) (by kernel_rfl) (fun _ _ _ h => h) (by rfl) ?_ (by assumption) ?_
  rotate_left
  · (intro u hSu; (try dsimp only at hSu); go_simp; (try with_reducible rfl))
  (try simp only [Act.put, List.setIfInBounds_toArray, List.set_cons_zero, List.set_cons_succ])
  refine Man.one (i := 36) rfl (by kernel_rfl) (fun K hK => ?_)
  go_simp
  (go_at_call 6; (with_reducible refine (known_any _).mono ?_); rintro e w' ⟨rfl, hb⟩)
  refine hK.out _ _ ?_ (fun hNew => ?_)
  · exact t_step hHeld hb
  clear hHeld hK K hb
  have hHeld := hNew
  clear hNew
  (try simp only [Act.put, List.setIfInBounds_toArray, List.set_cons_zero, List.set_cons_succ])
  refine Man.take1 (i := 37) (v := ?_) rfl (by kernel_rfl) (by kernel_rfl) (by kernel_rfl) (fun _ _ _ h => h) (by rfl) ?_ (by assumption) ?_
  rotate_left
  · (intro u hSu; (try dsimp only at hSu); go_simp; (try with_reducible rfl))
  (try simp only [Act.put, List.setIfInBounds_toArray, List.set_cons_zero, List.set_cons_succ])
  refine Man.take1 (i := 38) (v := ?_) rfl (by kernel_rfl) (by kernel_rfl) (by kernel_rfl) (fun _ _ _ h => h) (by rfl) ?_ (by assumption) ?_
  rotate_left
  · (intro u hSu; (try dsimp only at hSu); go_simp; (try with_reducible rfl))
  (try simp only [Act.put, List.setIfInBounds_toArray, List.set_cons_zero, List.set_cons_succ])
  refine wpAnyH_done (by kernel_rfl) ?_ _
  obtain ⟨_, _, _, _, _, _, _, _, _, _, _, _, _, _, hqb, hqz⟩ := hHeld
  have HBF := hidm (HS3.out.then hqb)
  clear hqb hqz SS0
  go_wp2_with fail
  go_ret
  exact ⟨rfl, HBF.out.below⟩
theorem law_any (a b : X) (c : M) (ia : InnX a) (ib : InnX b) (ic : InnM c) (w : World) (ha : a.In w) (hb : b.In w) (hc : c.In w) :
    Calls Tryz.prog 3 #[.agg #[.int .i64 a.seq, .int .i64 a.tm, .slice a.co a.l.length a.cc], .agg #[.int .i64 b.seq, .int .i64 b.tm, .slice b.co b.l.length b.cc], .agg #[.int .i64 c.c.op, .string (S c.c.tb), .slice c.ro c.c.row.length c.rc, .int .i64 c.c.a, .int .i64 c.c.z, .string (S c.c.df.nm), .slice c.qo c.c.df.cols.length c.qc, .int .i64 c.c.df.keys]] w fun e w' => e = .returned (.bool true) ∧ Below w.heap.size w w' := by
  rcases g1 : litB a.l with _ | _
  · exact skip_a a b c ia ib ic g1 w ha hb hc
  · rcases g2 : litB b.l with _ | _
    · exact skip_b a b c ia ib ic g1 g2 w ha hb hc
    · rcases g3 : litB [c] with _ | _
      · exact skip_c a b c ia ib ic g1 g2 g3 w ha hb hc
      · exact main_any a b c ia ib ic g1 g2 g3 w ha hb hc
theorem laidOut : laidOutB Tryz.prog = true := by kernel_rfl
set_option maxRecDepth 100000 in
theorem contract (H : Type) (enc : TypeId × Value → H) (W : World) (base : Nat) (args : Array Value) (ds gs : List (DataW H)) (before : List MemPlace)
    (hval : ∀ (j : Nat) t v, Tryz.f3.params[j]? = some t → args[j]? = some v → Value.okWide Tryz.prog W .any base t v)
    (hW : DataW.Whole enc Tryz.prog Tryz.f3.params.toList Rows.frameTellsSpec.vars false W args.toList ds gs before)
    (hsz0 : (DataW.weightsEach Tryz.prog (Tryz.f3.params.toList ++ Rows.frameTellsSpec.plain.varTypes Tryz.prog) (ds ++ gs)).all (· ≤ reachBytes) = true) :
    Calls Tryz.prog 3 args W fun e W' => ∃ v, e = .returned v ∧ Rows.frameTellsSpec.post enc Tryz.prog Tryz.f3 false true false false W args v W' := by
  have hW' := hW
  obtain ⟨p, q, hA0, hV, rfl, hfz, hnd⟩ := hW
  have hA : DataW.TrodAll enc Tryz.prog W 0 (fun _ => true) true Tryz.f3.params.toList args.toList ds p := hA0
  rw [Tryz.params3] at hA hval hsz0
  obtain ⟨v0, vs0, d0, ds0, p0, q0, hargs, rfl, rfl, h0, r0⟩ := trodAll_cons hA
  obtain ⟨v1, vs1, d1, ds1, p1, q1, rfl, rfl, rfl, h1, r1⟩ := trodAll_cons r0
  obtain ⟨v2, vs2, d2, ds2, p2, q2, rfl, rfl, rfl, h2, r2⟩ := trodAll_cons r1
  obtain ⟨rfl, rfl, rfl⟩ := trodAll_nil r2
  obtain rfl : args = #[v0, v1, v2] := by cases args; simp_all
  obtain ⟨rfl, rfl⟩ := trodVars_none hV
  have hsz := fun n hn => of_decide_eq_true (List.all_eq_true.1 hsz0 n hn)
  obtain ⟨a, rfl, hma, hia⟩ := open_txn (hval 0 24 v0 rfl rfl) h0 (fun n hn => hsz n (DataW.weights_mem_each (j := 0) (t := 24) rfl rfl n hn))
  obtain ⟨b, rfl, hmb, hib⟩ := open_txn (hval 1 24 v1 rfl rfl) h1 (fun n hn => hsz n (DataW.weights_mem_each (j := 1) (t := 24) rfl rfl n hn))
  obtain ⟨c, rfl, hmc, hic⟩ := open_chg (hval 2 32 v2 rfl rfl) h2 (fun n hn => hsz n (DataW.weights_mem_each (j := 2) (t := 32) rfl rfl n hn))
  clear hA0 hsz0
  simp only [List.append_nil] at hW'
  have hlt : ∀ x ∈ p0 ++ p1 ++ p2, x.block < W.heap.size := fun x hx => hW'.lt x (by simpa using hx)
  have walk := law_any a b c hia hib hic W hma hmb hmc
  refine walk.mono fun e W' ⟨he, hg⟩ => ?_
  subst he
  refine ⟨_, rfl, Fr.post_made (pa := p0 ++ (p1 ++ p2)) (pv := []) hW' (fun _ _ _ => trodAll_cons_mk (shut_bool Tryz.underlying4 _) trodAll_mk0) (fun sp hsp => ?_) (fun _ _ => rfl) (by simp) hg (ok_one (by kernel_rfl) rfl (okWide_bool_mk Tryz.underlying4 _))⟩
  have g0 : DataW.Trod enc Tryz.prog W' 0 sp true 24 _ d0 p0 := WideElems.Trod_stays laidOut (by kernel_rfl) (of_decide_eq_true (by kernel_rfl)) h0 (fun x hx => hg.same (hlt x (by simp [hx]))) (fun x hx => hsp x (by simp [hx]))
  have g1 : DataW.Trod enc Tryz.prog W' 0 sp true 24 _ d1 p1 := WideElems.Trod_stays laidOut (by kernel_rfl) (of_decide_eq_true (by kernel_rfl)) h1 (fun x hx => hg.same (hlt x (by simp [hx]))) (fun x hx => hsp x (by simp [hx]))
  have g2 : DataW.Trod enc Tryz.prog W' 0 sp true 32 _ d2 p2 := WideElems.Trod_stays laidOut (by kernel_rfl) (of_decide_eq_true (by kernel_rfl)) h2 (fun x hx => hg.same (hlt x (by simp [hx]))) (fun x hx => hsp x (by simp [hx]))
  have hT := (trodAll_cons_mk g0 (trodAll_cons_mk g1 (trodAll_cons_mk g2 trodAll_mk0)))
  simp only [List.append_nil] at hT
  exact hT
set_option maxRecDepth 100000 in
theorem lifted (os : Os) (started : os.Started) (H : Type) (enc : TypeId × Value → H) :
    ReturnsInHanded {} Tryz.checked os 3 .any (Rows.frameTellsSpec.pre6 enc Tryz.prog Tryz.f3 Rows.frameTellsRow.domain false) (Rows.frameTellsSpec.post enc Tryz.prog Tryz.f3 false true false false) := by
  refine returnsInHanded_of_change_sized (C := Tryz.checked) Fr.own started (by kernel_rfl) Tryz.func3
    (ChangeSpec.witness6 (enc := enc) (C := Tryz.checked) false ⟨#[], #[.agg #[.int .i64 0, .int .i64 0, .slice none 0 0], .agg #[.int .i64 0, .int .i64 0, .slice none 0 0], .agg #[.int .i64 0, .string ⟨#[]⟩, .slice none 0 0, .int .i64 0, .int .i64 0, .string ⟨#[]⟩, .slice none 0 0, .int .i64 0]], []⟩ 8 (by kernel_rfl) (by kernel_rfl) (by kernel_rfl) (by kernel_rfl)) ?_
  intro W base args ds gs before hval hW _ hsz _
  exact contract H enc W base args ds gs before hval hW hsz
theorem said : Rows.FrameTellsSaid :=
  OpenClaim.holds_of_wide 3 Tryz.f3 rfl rfl rfl rfl rfl rfl rfl ⟨rfl, rfl, rfl, rfl, rfl⟩ rfl rfl rfl rfl rfl (by kernel_rfl) Tryz.func3 (by kernel_rfl)
    (of_decide_eq_true (by kernel_rfl)) (by unfold Func.isWrapper; first | (rw [if_pos (by decide +kernel)]; kernel_rfl) | (rw [if_neg (by decide +kernel)]; exact ⟨rfl, rfl⟩))
    (fun os started H enc _ => lifted os started H enc)
end LaFrameTells
end Go.Proofs.YtopmbhpjdmcabaaGreat
