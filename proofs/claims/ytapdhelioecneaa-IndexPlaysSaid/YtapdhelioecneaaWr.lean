/- A drawn region in a round of a loop over an iterator, walked as everywhere. No condition. -/
import Derived.Test.YtapdhelioecneaaWp
import Derived.Test.YtapdhelioecneaaMp
namespace Go.Proofs.Ytapdhelioecneaa
open Go.RowKit
namespace Inr
section
variable {P : Program} {ops : Array Oper} {Q : Exit → Act → World → Prop} {l n : Nat}
theorem rows_wide {n : Nat} {P : Program} {row : String} {args : Array Value} {w : World} {R : Value → World → Prop} : RowsIn Fence.wide n P row args w R ↔ Rows P row args w R :=
  ⟨fun h c cs => let ⟨v, w', r, s⟩ := h c cs (room_wide _); ⟨v, w', r, stepsIn_wide.1 s⟩, fun h c cs _ => let ⟨v, w', r, s⟩ := h c cs; ⟨v, w', r, stepsIn_wide.2 s⟩⟩
theorem rows_round {l n : Nat} {P : Program} {row : String} {args : Array Value} {w : World} {R : Value → World → Prop} (h : Rows P row args w R) : RowsIn (Fence.wide.inRound l) n P row args w R :=
  (rows_wide (n := n)).2 h
/-- No operation is a defer statement. -/
def noDefer (ops : Array Oper) : Bool := ops.toList.all fun o => match o.op with
  | .defer _ => false
  | _ => true
theorem noDefer_at (h : noDefer ops = true) {i : Nat} {o : Oper} (ho : ops[i]? = some o) : ∀ c, o.op ≠ .defer c := fun c e => by
  have h1 := List.all_eq_true.1 h o (by rw [← Array.getElem?_toList] at ho; exact List.mem_of_getElem? ho)
  rw [e] at h1
  cases h1
theorem upon {o : Oper} {a : Act} {K : Act → World → Prop} {r : Result Next} (h : o.upon P a K Q r) : o.uponIn (Fence.wide.inRound l) n P a K Q r := by
  cases r with
  | ok x w =>
    cases x with
    | value v => exact h
    | skip => exact h
    | defer d => exact h
    | enter f args => exact ⟨(fun e => by cases e), CallsIn.inRound l (callsIn_wide.2 h)⟩
    | row r args => exact ⟨(fun e => by cases e), rows_round h⟩
    | _ => exact h.elim
  | halt x w =>
    cases x with
    | panic v => exact h
    | _ => exact h.elim
theorem op {i : Nat} {K K' : Act → World → Prop} {a : Act} {w : World} (hd : noDefer ops = true) (hno : ¬ LetsOut Q) (hK : ∀ a w, K a w → K' a w) (h : wpOp P ops Q i K a w) : wpOpIn (Fence.wide.inRound l) n P ops Q i K' a w := by
  have h := wpOp_mono hK h
  unfold wpOp at h
  unfold wpOpIn
  cases ho : ops[i]? with
  | none => rw [ho] at h; exact h
  | some o =>
    rw [ho] at h
    simp only at h ⊢
    split
    · next hw =>
      rw [if_pos hw] at h
      rcases h with h | h
      · refine ⟨fun _ _ => trivial, ?_⟩
        rw [Oper.semAt_plain (Fence.wide.inRound l) _ o (noDefer_at hd ho)]
        exact upon h
      · exact (hno h.2).elim
    · next hw =>
      rw [if_neg hw] at h
      exact ⟨fun _ _ => trivial, h⟩
theorem any (hd : noDefer ops = true) (hno : ¬ LetsOut Q) {md : Region.Mode} : ∀ (k : Nat) (don : Array Bool) (a : Act) (w : World), wpAny P md ops Q k don a w → wpAnyIn (Fence.wide.inRound l) n P md ops Q k don a w
  | 0, _, _, _, h => h
  | k + 1, _, _, _, h => ⟨h.1, fun i hi => op hd hno (fun a w h9 => any hd hno k _ a w h9) (h.2 i hi)⟩
/-- The beginning, with a condition that every operation keeps. -/
theorem held {id : Nat} {a : Act} {w : World} {S : World → Prop} (hm : P.follows .mixedOrders = true) (hd : noDefer ops = true) (hno : ¬ LetsOut Q) (hS : S w.drew) (h : S w.drew → wpAnyH P .any ops Q S ops.size (Array.replicate ops.size false) a w.drew) : (Code.region id ops true).wpIn (Fence.wide.inRound l) n P Q a w :=
  wpIn_region_any hm (any hd hno _ _ _ _ (wpAny_of_held _ _ _ _ (h hS)))
/-- The beginning, where the last one writes what was read. -/
theorem goes {id : Nat} {a : Act} {w : World} {S : World → Prop} (p : Nat) (hm : P.follows .mixedOrders = true) (hd : noDefer ops = true) (hno : ¬ LetsOut Q) (hS : S w.drew) (h : S w.drew → Mp.Goes P .any ops Q p S ops.size (Array.replicate ops.size false) a w.drew) : (Code.region id ops true).wpIn (Fence.wide.inRound l) n P Q a w :=
  wpIn_region_any hm (any hd hno _ _ _ _ (Mp.any_of _ _ _ _ (h hS)))
end
end Inr
end Go.Proofs.Ytapdhelioecneaa
