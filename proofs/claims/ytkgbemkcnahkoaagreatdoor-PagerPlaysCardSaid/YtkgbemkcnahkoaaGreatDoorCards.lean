/-
  DERIVED. GIVEN WITH THE SEED: THE CARDS: each row of YtkgbemkcnahkoaaGreatDoorRows.lean that lists a variable, with what it lists TIED to the program's text (the seventh form; the later family's looks); each row that meets fmt, with fmt's text TOLD by the authors' own Lean function (tested against real Go, not proved from fmt's source: count such statements apart). THE CARD IS WHAT COUNTS. Prove the row's statement (the work); the ties are given (YtkgbemkcnahkoaaGreatDoorTie.lean); close each card by the builder's one call (the guide's Derived/Test/ToyasCard.lean, 'card_holds'). Laid BY PROGRAM, IN A SANDBOX (cutbox-door.mjs). By AI agents, Wed Nov 11 2026. No macro, syntax, notation, axiom, sorry.
-/
import Derived.Test.YtkgbemkcnahkoaaGreatDoorRows
import GoSem.ClaimSeven
namespace Go.Proofs.YtkgbemkcnahkoaaGreatDoor
namespace Rows

/-- THE TIED CARD OF 'memoirlaw09.PagerPlays'. -/
def pagerPlaysCard : Claim7 := { stood := { row := pagerPlaysRow, standIns := [], harness := (true, "d6c735b17e80f8249b547d5510c05c5d19b2035587b19176ded4ee4a9380b3e6"), looks := true }, kinds := [], alts := [], laidByText := true, laidKinds := [.data, .pinned], laidTests := true, laidLooks := .later }
def PagerPlaysCardSaid : Prop := Claim7.holds Tryz.pinned (.plain (OpenSpec.ofChange pagerPlaysSpec)) pagerPlaysCard

/-- THE TIED CARD OF 'memoirlaw09.PagerAtomic'. -/
def pagerAtomicCard : Claim7 := { stood := { row := pagerAtomicRow, standIns := [], harness := (true, "d6c735b17e80f8249b547d5510c05c5d19b2035587b19176ded4ee4a9380b3e6"), looks := true }, kinds := [], alts := [], laidByText := true, laidKinds := [.data, .pinned], laidTests := true, laidLooks := .later }
def PagerAtomicCardSaid : Prop := Claim7.holds Tryz.pinned (.plain (OpenSpec.ofChange pagerAtomicSpec)) pagerAtomicCard

/-- THE TIED CARD OF 'memoirlaw09.PagerAgain'. -/
def pagerAgainCard : Claim7 := { stood := { row := pagerAgainRow, standIns := [], harness := (true, "d6c735b17e80f8249b547d5510c05c5d19b2035587b19176ded4ee4a9380b3e6"), looks := true }, kinds := [], alts := [], laidByText := true, laidKinds := [.data, .pinned], laidTests := true, laidLooks := .later }
def PagerAgainCardSaid : Prop := Claim7.holds Tryz.pinned (.plain (OpenSpec.ofChange pagerAgainSpec)) pagerAgainCard

/-- THE TIED CARD OF 'memoirlaw09.PagerFrees'. -/
def pagerFreesCard : Claim7 := { stood := { row := pagerFreesRow, standIns := [], harness := (true, "d6c735b17e80f8249b547d5510c05c5d19b2035587b19176ded4ee4a9380b3e6"), looks := true }, kinds := [], alts := [], laidByText := true, laidKinds := [.data, .pinned], laidTests := true, laidLooks := .later }
def PagerFreesCardSaid : Prop := Claim7.holds Tryz.pinned (.plain (OpenSpec.ofChange pagerFreesSpec)) pagerFreesCard

/-- THE TIED CARD OF 'memoirlaw09.PagerNil'. -/
def pagerNilCard : Claim7 := { stood := { row := pagerNilRow, standIns := [], harness := (true, "d6c735b17e80f8249b547d5510c05c5d19b2035587b19176ded4ee4a9380b3e6"), looks := true }, kinds := [], alts := [], laidByText := true, laidKinds := [.data, .pinned], laidTests := true, laidLooks := .later }
def PagerNilCardSaid : Prop := Claim7.holds Tryz.pinned (.plain (OpenSpec.ofChange pagerNilSpec)) pagerNilCard

/-- THE TIED CARD OF 'memoirlaw09.PagerReads'. -/
def pagerReadsCard : Claim7 := { stood := { row := pagerReadsRow, standIns := [], harness := (true, "d6c735b17e80f8249b547d5510c05c5d19b2035587b19176ded4ee4a9380b3e6"), looks := true }, kinds := [], alts := [], laidByText := true, laidKinds := [.data, .pinned], laidTests := true, laidLooks := .later }
def PagerReadsCardSaid : Prop := Claim7.holds Tryz.pinned (.plain (OpenSpec.ofChange pagerReadsSpec)) pagerReadsCard

/-- THE TIED CARD OF 'memoirlaw09.PagerLives'. -/
def pagerLivesCard : Claim7 := { stood := { row := pagerLivesRow, standIns := [], harness := (true, "d6c735b17e80f8249b547d5510c05c5d19b2035587b19176ded4ee4a9380b3e6"), looks := true }, kinds := [], alts := [], laidByText := true, laidKinds := [.data, .pinned], laidTests := true, laidLooks := .later }
def PagerLivesCardSaid : Prop := Claim7.holds Tryz.pinned (.plain (OpenSpec.ofChange pagerLivesSpec)) pagerLivesCard

/-- THE SECOND FORM's CARD OF 'memoirlaw09.PagerPlays'. -/
def pagerPlaysUptoCard : Claim7 := { stood := { row := pagerPlaysUptoRow, standIns := [], harness := (true, "d6c735b17e80f8249b547d5510c05c5d19b2035587b19176ded4ee4a9380b3e6"), looks := true }, kinds := [], alts := [], laidByText := true, laidKinds := [.data, .pinned], laidTests := true, laidLooks := .later }
def PagerPlaysUptoCardSaid : Prop := Claim7.holds Tryz.pinned (.plain (OpenSpec.upto pagerPlaysSpec)) pagerPlaysUptoCard

/-- THE SECOND FORM's CARD OF 'memoirlaw09.PagerAtomic'. -/
def pagerAtomicUptoCard : Claim7 := { stood := { row := pagerAtomicUptoRow, standIns := [], harness := (true, "d6c735b17e80f8249b547d5510c05c5d19b2035587b19176ded4ee4a9380b3e6"), looks := true }, kinds := [], alts := [], laidByText := true, laidKinds := [.data, .pinned], laidTests := true, laidLooks := .later }
def PagerAtomicUptoCardSaid : Prop := Claim7.holds Tryz.pinned (.plain (OpenSpec.upto pagerAtomicSpec)) pagerAtomicUptoCard

/-- THE SECOND FORM's CARD OF 'memoirlaw09.PagerAgain'. -/
def pagerAgainUptoCard : Claim7 := { stood := { row := pagerAgainUptoRow, standIns := [], harness := (true, "d6c735b17e80f8249b547d5510c05c5d19b2035587b19176ded4ee4a9380b3e6"), looks := true }, kinds := [], alts := [], laidByText := true, laidKinds := [.data, .pinned], laidTests := true, laidLooks := .later }
def PagerAgainUptoCardSaid : Prop := Claim7.holds Tryz.pinned (.plain (OpenSpec.upto pagerAgainSpec)) pagerAgainUptoCard

/-- THE SECOND FORM's CARD OF 'memoirlaw09.PagerFrees'. -/
def pagerFreesUptoCard : Claim7 := { stood := { row := pagerFreesUptoRow, standIns := [], harness := (true, "d6c735b17e80f8249b547d5510c05c5d19b2035587b19176ded4ee4a9380b3e6"), looks := true }, kinds := [], alts := [], laidByText := true, laidKinds := [.data, .pinned], laidTests := true, laidLooks := .later }
def PagerFreesUptoCardSaid : Prop := Claim7.holds Tryz.pinned (.plain (OpenSpec.upto pagerFreesSpec)) pagerFreesUptoCard

/-- THE SECOND FORM's CARD OF 'memoirlaw09.PagerNil'. -/
def pagerNilUptoCard : Claim7 := { stood := { row := pagerNilUptoRow, standIns := [], harness := (true, "d6c735b17e80f8249b547d5510c05c5d19b2035587b19176ded4ee4a9380b3e6"), looks := true }, kinds := [], alts := [], laidByText := true, laidKinds := [.data, .pinned], laidTests := true, laidLooks := .later }
def PagerNilUptoCardSaid : Prop := Claim7.holds Tryz.pinned (.plain (OpenSpec.upto pagerNilSpec)) pagerNilUptoCard

/-- THE SECOND FORM's CARD OF 'memoirlaw09.PagerReads'. -/
def pagerReadsUptoCard : Claim7 := { stood := { row := pagerReadsUptoRow, standIns := [], harness := (true, "d6c735b17e80f8249b547d5510c05c5d19b2035587b19176ded4ee4a9380b3e6"), looks := true }, kinds := [], alts := [], laidByText := true, laidKinds := [.data, .pinned], laidTests := true, laidLooks := .later }
def PagerReadsUptoCardSaid : Prop := Claim7.holds Tryz.pinned (.plain (OpenSpec.upto pagerReadsSpec)) pagerReadsUptoCard

/-- THE SECOND FORM's CARD OF 'memoirlaw09.PagerLives'. -/
def pagerLivesUptoCard : Claim7 := { stood := { row := pagerLivesUptoRow, standIns := [], harness := (true, "d6c735b17e80f8249b547d5510c05c5d19b2035587b19176ded4ee4a9380b3e6"), looks := true }, kinds := [], alts := [], laidByText := true, laidKinds := [.data, .pinned], laidTests := true, laidLooks := .later }
def PagerLivesUptoCardSaid : Prop := Claim7.holds Tryz.pinned (.plain (OpenSpec.upto pagerLivesSpec)) pagerLivesUptoCard
end Rows
end Go.Proofs.YtkgbemkcnahkoaaGreatDoor
