/-
  DERIVED. GIVEN WITH THE SEED: THE CARDS: each row of YtmccnlffikegfaaGreatDoorRows.lean that lists a variable, with what it lists TIED to the program's text (the seventh form; the later family's looks); each row that meets fmt, with fmt's text TOLD by the authors' own Lean function (tested against real Go, not proved from fmt's source: count such statements apart). THE CARD IS WHAT COUNTS. Prove the row's statement (the work); the ties are given (YtmccnlffikegfaaGreatDoorTie.lean); close each card by the builder's one call (the guide's Derived/Test/ToyasCard.lean, 'card_holds'). Laid BY PROGRAM, IN A SANDBOX (cutbox-door.mjs). By AI agents, Wed Nov 11 2026. No macro, syntax, notation, axiom, sorry.
-/
import Derived.Test.YtmccnlffikegfaaGreatDoorRows
import GoSem.ClaimSeven
namespace Go.Proofs.YtmccnlffikegfaaGreatDoor
namespace Rows

/-- THE TIED CARD OF 'memoirlaw10.HeapKeeps'. -/
def heapKeepsCard : Claim7 := { stood := { row := heapKeepsRow, standIns := [], harness := (true, "61a3581d7687e493ab4c28f5eb3f21d4810139a9e5505cc63904da80e05a1369"), looks := true }, kinds := [], alts := [], laidByText := true, laidKinds := [.data, .pinned], laidTests := true, laidLooks := .later }
def HeapKeepsCardSaid : Prop := Claim7.holds Tryz.pinned (.plain (OpenSpec.ofChange heapKeepsSpec)) heapKeepsCard

/-- THE TIED CARD OF 'memoirlaw10.HeapFull'. -/
def heapFullCard : Claim7 := { stood := { row := heapFullRow, standIns := [], harness := (true, "61a3581d7687e493ab4c28f5eb3f21d4810139a9e5505cc63904da80e05a1369"), looks := true }, kinds := [], alts := [], laidByText := true, laidKinds := [.data, .pinned], laidTests := true, laidLooks := .later }
def HeapFullCardSaid : Prop := Claim7.holds Tryz.pinned (.plain (OpenSpec.ofChange heapFullSpec)) heapFullCard

/-- THE TIED CARD OF 'memoirlaw10.HeapRoots'. -/
def heapRootsCard : Claim7 := { stood := { row := heapRootsRow, standIns := [], harness := (true, "61a3581d7687e493ab4c28f5eb3f21d4810139a9e5505cc63904da80e05a1369"), looks := true }, kinds := [], alts := [], laidByText := true, laidKinds := [.data, .pinned], laidTests := true, laidLooks := .later }
def HeapRootsCardSaid : Prop := Claim7.holds Tryz.pinned (.plain (OpenSpec.ofChange heapRootsSpec)) heapRootsCard

/-- THE TIED CARD OF 'memoirlaw10.HeapNil'. -/
def heapNilCard : Claim7 := { stood := { row := heapNilRow, standIns := [], harness := (true, "61a3581d7687e493ab4c28f5eb3f21d4810139a9e5505cc63904da80e05a1369"), looks := true }, kinds := [], alts := [], laidByText := true, laidKinds := [.data, .pinned], laidTests := true, laidLooks := .later }
def HeapNilCardSaid : Prop := Claim7.holds Tryz.pinned (.plain (OpenSpec.ofChange heapNilSpec)) heapNilCard

/-- THE TIED CARD OF 'memoirlaw10.HeapTwice'. -/
def heapTwiceCard : Claim7 := { stood := { row := heapTwiceRow, standIns := [], harness := (true, "61a3581d7687e493ab4c28f5eb3f21d4810139a9e5505cc63904da80e05a1369"), looks := true }, kinds := [], alts := [], laidByText := true, laidKinds := [.data, .pinned], laidTests := true, laidLooks := .later }
def HeapTwiceCardSaid : Prop := Claim7.holds Tryz.pinned (.plain (OpenSpec.ofChange heapTwiceSpec)) heapTwiceCard

/-- THE SECOND FORM's CARD OF 'memoirlaw10.HeapKeeps'. -/
def heapKeepsUptoCard : Claim7 := { stood := { row := heapKeepsUptoRow, standIns := [], harness := (true, "61a3581d7687e493ab4c28f5eb3f21d4810139a9e5505cc63904da80e05a1369"), looks := true }, kinds := [], alts := [], laidByText := true, laidKinds := [.data, .pinned], laidTests := true, laidLooks := .later }
def HeapKeepsUptoCardSaid : Prop := Claim7.holds Tryz.pinned (.plain (OpenSpec.upto heapKeepsSpec)) heapKeepsUptoCard

/-- THE SECOND FORM's CARD OF 'memoirlaw10.HeapFull'. -/
def heapFullUptoCard : Claim7 := { stood := { row := heapFullUptoRow, standIns := [], harness := (true, "61a3581d7687e493ab4c28f5eb3f21d4810139a9e5505cc63904da80e05a1369"), looks := true }, kinds := [], alts := [], laidByText := true, laidKinds := [.data, .pinned], laidTests := true, laidLooks := .later }
def HeapFullUptoCardSaid : Prop := Claim7.holds Tryz.pinned (.plain (OpenSpec.upto heapFullSpec)) heapFullUptoCard

/-- THE SECOND FORM's CARD OF 'memoirlaw10.HeapRoots'. -/
def heapRootsUptoCard : Claim7 := { stood := { row := heapRootsUptoRow, standIns := [], harness := (true, "61a3581d7687e493ab4c28f5eb3f21d4810139a9e5505cc63904da80e05a1369"), looks := true }, kinds := [], alts := [], laidByText := true, laidKinds := [.data, .pinned], laidTests := true, laidLooks := .later }
def HeapRootsUptoCardSaid : Prop := Claim7.holds Tryz.pinned (.plain (OpenSpec.upto heapRootsSpec)) heapRootsUptoCard

/-- THE SECOND FORM's CARD OF 'memoirlaw10.HeapNil'. -/
def heapNilUptoCard : Claim7 := { stood := { row := heapNilUptoRow, standIns := [], harness := (true, "61a3581d7687e493ab4c28f5eb3f21d4810139a9e5505cc63904da80e05a1369"), looks := true }, kinds := [], alts := [], laidByText := true, laidKinds := [.data, .pinned], laidTests := true, laidLooks := .later }
def HeapNilUptoCardSaid : Prop := Claim7.holds Tryz.pinned (.plain (OpenSpec.upto heapNilSpec)) heapNilUptoCard

/-- THE SECOND FORM's CARD OF 'memoirlaw10.HeapTwice'. -/
def heapTwiceUptoCard : Claim7 := { stood := { row := heapTwiceUptoRow, standIns := [], harness := (true, "61a3581d7687e493ab4c28f5eb3f21d4810139a9e5505cc63904da80e05a1369"), looks := true }, kinds := [], alts := [], laidByText := true, laidKinds := [.data, .pinned], laidTests := true, laidLooks := .later }
def HeapTwiceUptoCardSaid : Prop := Claim7.holds Tryz.pinned (.plain (OpenSpec.upto heapTwiceSpec)) heapTwiceUptoCard
end Rows
end Go.Proofs.YtmccnlffikegfaaGreatDoor
