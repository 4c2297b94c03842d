/- The frame of this seat's rows: from what the rows list to what the walks want, the post out of a walk that only makes memory, the witness' world. No condition. -/
import Derived.Test.YtppdebhcaodcnaaDoorCards
import Derived.Test.YtppdebhcaodcnaaDoorTie
import Derived.Test.YtppdebhcaodcnaaDoorValE
import Derived.ProofKit
import Derived.OpenShut
import Derived.Deep.DeepHandedRow
import Derived.Deep.DeepWitnessRowRef
import Derived.Lib.LaidTab
import Derived.Lib.SmallJoins
import Derived.LaidLaws
import Derived.LaidMore
namespace Go.Proofs.YtppdebhcaodcnaaDoor
open Go.ChangeShapes Go.WideShapes Go.ChangeAt Go.RowKit
namespace Fr
section
variable {H : Type} {enc : TypeId × Value → H} {P : Program}
/-- The post of a walk that makes memory and writes nothing that was there. -/
theorem post_made {f : Func} {s : ChangeSpec} {apart fresh handsOn again : Bool} {W W' : World} {args : Array Value} {v : Value} {ds gs : List (DataW H)} {before pa pv : List MemPlace}
    (hW : DataW.Whole enc P f.params.toList s.vars apart W args.toList ds gs before)
    (hres : ∀ (b : Nat) (sp : Nat → Bool) (hd : Bool), DataW.TrodAll enc P W' b sp hd f.resultTypes.toList (v.resultList f.resultTypes.size) (s.fn H (ds ++ gs)).results [])
    (hargs : ∀ sp : Nat → Bool, (∀ p ∈ before, sp p.block = true) → DataW.TrodAll enc P W' 0 sp true f.params.toList args.toList (s.fn H (ds ++ gs)).args pa)
    (hvars : ∀ sp : Nat → Bool, (∀ p ∈ before, sp p.block = true) → DataW.TrodVars enc P W' sp s.vars (s.fn H (ds ++ gs)).vars pv)
    (hps : before = pa ++ pv) (hb : Below W.heap.size W W')
    (hok : ∀ (j : Nat) (t : TypeId) (r : Value), f.resultTypes[j]? = some t → (v.resultList f.resultTypes.size)[j]? = some r → Value.okWide P W' .any 0 t r) :
    s.post enc P f apart fresh handsOn again W args v W' := by
  have lt : ∀ p ∈ before, p.block < W.heap.size := fun p hp => hW.lt p hp
  have old : ∀ p ∈ before, (fun b => decide (b < W.heap.size)) p.block = true := fun p hp => by simpa using lt p hp
  refine ⟨ds, gs, before, [], pa, pv, hW, hres _ _ _, hargs _ old, hvars _ old, World.keptBut_mono (fun p hp => ⟨hp, ?_⟩) (hb.frame (· ∈ before)), fun _ => ?_⟩
  · rw [hps, List.mem_append] at hp
    exact Or.inr hp
  · obtain ⟨_, _, _, _, _, hz, hn⟩ := hW
    refine ⟨hok, _, _, ([] ++ pa) ++ pv, ⟨[] ++ pa, pv, trodAll_append (hargs _ (fun _ _ => rfl)) (hres _ _ _), hvars _ (fun _ _ => rfl), rfl, ?_, ?_⟩, ?_⟩
    · intro b off hp
      have hin : MemPlace.cell b off ∈ before := by rw [hps]; simpa using hp
      rw [hb.frozen (lt _ hin)]
      exact hz b off hin
    · intro ha
      have := hn ha
      rw [hps] at this
      simpa using this
    · intro p hp _
      rw [hps]
      simpa using hp
end
theorem laid_find {P : Program} {W : World} : ∀ {l : List (String × DataW Unit)} {ps : List MemPlace}, DataW.LaidVars P W l ps → ∀ {n : String} {d : DataW Unit}, (n, d) ∈ l →
    ∃ g t cs fuel p, P.globalNamed n = some g ∧ (P.globals[g]?).map (·.type) = some t ∧ W.var? P n = some cs ∧ DataW.trod (fun _ => ()) P W 0 (fun _ => true) false fuel t cs.toList = some (d, p)
  | [], _, _, _, _, h => by cases h
  | (m, e) :: r, ps, hl, n, d, h => by
    obtain ⟨g, t, cs, fuel, p, q, h1, h2, h3, h4, h5, _⟩ := hl
    rcases List.mem_cons.1 h with h | h
    · cases h
      exact ⟨g, t, cs, fuel, p, h1, h2, h3, h4⟩
    · exact laid_find h5 h
theorem own : ownKnob Tryd.prog.godebug = none := by kernel_rfl
theorem gP : Tryd.prog.globalNamed "internal/strconv.uint64pow10" = some 4 := by kernel_rfl
theorem gS : Tryd.prog.globalNamed "strconv.ErrSyntax" = some 1 := by kernel_rfl
theorem gR : Tryd.prog.globalNamed "strconv.ErrRange" = some 2 := by kernel_rfl
theorem tP : (Tryd.prog.globals[4]?).map (·.type) = some 129 := by kernel_rfl
theorem tS : (Tryd.prog.globals[1]?).map (·.type) = some 71 := by kernel_rfl
theorem tR : (Tryd.prog.globals[2]?).map (·.type) = some 71 := by kernel_rfl
theorem cP : Tryd.prog.cellsOf 129 = 20 := by kernel_rfl
theorem cE : Tryd.prog.cellsOf 23 = 1 := by kernel_rfl
theorem env_of {W : World} (h : laidMet Tryd.prog Rows.valueReadsRow.laid W) : Val.Env W := by
  obtain ⟨ps, hl, _⟩ := h
  refine ⟨?_, ?_, ?_⟩
  · obtain ⟨g, t, cs, fuel, p, h1, h2, h3, h4⟩ := laid_find hl (n := "internal/strconv.uint64pow10") (d := Rows.laid_internal_strconv_uint64pow10) (by simp [Rows.valueReadsRow])
    obtain rfl := Option.some.inj (gP.symm.trans h1)
    obtain rfl := Option.some.inj (tP.symm.trans h2)
    have hd : (Rows.laid_internal_strconv_uint64pow10 : DataW Unit) = Lib.tabData .u64 Lib.pow10Tab := rfl
    rw [hd] at h4
    unfold Lib.TabIs
    rw [h3, ← Lib.cells_of_tab Tryd.underlying129 Tryd.underlying23 cE cP h4]
  · obtain ⟨g, t, cs, fuel, p, h1, h2, h3, h4⟩ := laid_find hl (n := "strconv.ErrSyntax") (d := Rows.laid_strconv_ErrSyntax) (by simp [Rows.valueReadsRow])
    obtain rfl := Option.some.inj (gS.symm.trans h1)
    obtain rfl := Option.some.inj (tS.symm.trans h2)
    obtain ⟨_, u, v, hcs, _, _⟩ := iface_of_trod Tryd.underlying71 h4
    exact ⟨u, v, by rw [h3, Array.eq_one_of_toList hcs]⟩
  · obtain ⟨g, t, cs, fuel, p, h1, h2, h3, h4⟩ := laid_find hl (n := "strconv.ErrRange") (d := Rows.laid_strconv_ErrRange) (by simp [Rows.valueReadsRow])
    obtain rfl := Option.some.inj (gR.symm.trans h1)
    obtain rfl := Option.some.inj (tR.symm.trans h2)
    obtain ⟨_, u, v, hcs, _, _⟩ := iface_of_trod Tryd.underlying71 h4
    exact ⟨u, v, by rw [h3, Array.eq_one_of_toList hcs]⟩
/-- The heap that the program's own initialisers leave meets what the rows list. -/
theorem door_met (os : Os) (args : Array Value) : laidMet Tryd.prog Rows.valueReadsRow.laid ((World.doorLaid Tryd.prog 600 os).forCall (fun _ _ => 0) ⟨#[], args, []⟩).memory :=
  laidMet_of_run' 8 (by kernel_rfl) (by kernel_rfl)
end Fr
end Go.Proofs.YtppdebhcaodcnaaDoor
