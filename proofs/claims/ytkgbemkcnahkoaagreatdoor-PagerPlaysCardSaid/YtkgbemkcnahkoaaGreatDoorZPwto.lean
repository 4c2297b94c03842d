import Derived.Test.YtkgbemkcnahkoaaGreatDoorZPxto
import Derived.Laws.OwnMore
namespace Go.Proofs.YtkgbemkcnahkoaaGreatDoor
open Go.RowKit
namespace Pgr
open Wal (Pair PL R np strs)
open Dsk (PD Mine KeepQ Only below_keeps cell_later sec vals pad zeros upd IntsAt ints BoolsAt Opv)
open Crc (S S_of S_size)
section
variable {base : Nat} {Q Q' : Nat → Prop} {ks : List Bool} {v : Value} {w w' : World}
end
end Pgr
end Go.Proofs.YtkgbemkcnahkoaaGreatDoor
namespace Go.Proofs.YtkgbemkcnahkoaaGreatDoor
open Go.RowKit
namespace Pgr
open Dsk (zeros)
end Pgr
namespace Dsk
open Go.ChangeShapes Go.WideShapes Go.ChangeAt Go.Deep
section
variable {H : Type} {enc : TypeId × Value → H} {W : World} {base : Nat} {sp : Nat → Bool} {held : Bool}
end
end Dsk
end Go.Proofs.YtkgbemkcnahkoaaGreatDoor
namespace Go.Proofs.YtkgbemkcnahkoaaGreatDoor
open Go.RowKit
namespace Pgr
open Wal (Pair PL R)
open Dsk (PD Mine KeepQ Only below_keeps cell_later sec vals pad zeros upd IntsAt ints BoolsAt)
open Crc (S S_of S_size)
section
variable {W B : World} {Q T : Nat → Prop} {P L D n N K : Nat} {u : Bool} {ch : Ch} {V : Nat → List UInt8} {d : PD} {w w' : World}
end
end Pgr
namespace Dsk
open Go.ChangeShapes Go.WideShapes Go.ChangeAt Go.Deep
section
variable {H : Type} {enc : TypeId × Value → H} {W : World} {base : Nat} {sp : Nat → Bool} {held : Bool}
set_option maxRecDepth 100000 in
theorem okWide_array2 {e t : TypeId} {r : Reach} {b0 : Nat} {v : Value} (ht : Tryz.prog.underlying t = some (.array 2 e)) (h : Value.okWide Tryz.prog W r b0 t v) : ∃ cs, v = .agg cs ∧ cs.size = Tryz.prog.cellsOf t := by
 simp only [Value.okWide, ht] at h
 obtain ⟨cs, h1, h2, _⟩ := h
 exact ⟨cs, h1, h2⟩
set_option maxRecDepth 100000 in
theorem open_pair {v : Value} {d : DataW H} {p : List MemPlace} {r : Reach} {b0 : Nat} (hok : Value.okWide Tryz.prog W r b0 22 v) (h : DataW.Trod enc Tryz.prog W base sp held 22 v d p) :
   ∃ a b : Nat, v = .agg #[.int .u8 (a : Int), .int .u8 (b : Int)] ∧ a < 256 ∧ b < 256 := by
 obtain ⟨cs, rfl, hsz⟩ := okWide_array2 Tryz.underlying22 hok
 rw [show Tryz.prog.cellsOf 22 = 2 by kernel_rfl] at hsz
 obtain ⟨c0, c1, rfl⟩ : ∃ c0 c1, cs = #[c0, c1] := by
   obtain ⟨l⟩ := cs
   match l, hsz with
   | [c0, c1], _ => exact ⟨c0, c1, rfl⟩
 obtain ⟨fuel, hf⟩ := h
 obtain ⟨xs, m, _, _, _, hl, hi⟩ := DataW.trod_array Tryz.underlying22 hf
 have h0 := hi 0 (by omega)
 have h1 := hi 1 (by omega)
 rw [show Tryz.prog.cellsOf 5 = 1 by kernel_rfl] at h0 h1
 rw [List.getElem?_eq_getElem (by omega)] at h0 h1
 simp only [Value.cells, Nat.zero_mul, List.drop_zero, Nat.one_mul, List.drop_succ_cons, List.take_succ_cons, List.take_zero] at h0 h1
 obtain ⟨z, hz, _, wz⟩ := DataW.trod_int Tryz.underlying5 h0
 obtain ⟨y, hy, _, wy⟩ := DataW.trod_int Tryz.underlying5 h1
 simp only [List.cons.injEq, and_true] at hz hy
 subst hz
 subst hy
 have bz := bounds_u8 wz
 have byy := bounds_u8 wy
 obtain ⟨a, rfl⟩ := Int.eq_ofNat_of_zero_le bz.1
 obtain ⟨b, rfl⟩ := Int.eq_ofNat_of_zero_le byy.1
 exact ⟨a, b, rfl, by omega, by omega⟩
end
end Dsk
end Go.Proofs.YtkgbemkcnahkoaaGreatDoor
