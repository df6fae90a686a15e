/-
  DERIVED. GIVEN WITH THE SEED: THE CARDS: each row of YtiejmkjpgjbodaaGreatDoorRows.lean that lists a variable, with what it lists TIED to the program's text (the seventh form; the later family's looks); each row that meets fmt, with fmt's text TOLD by the authors' own Lean function (tested against real Go, not proved from fmt's source: count such statements apart). THE CARD IS WHAT COUNTS. Prove the row's statement (the work); the ties are given (YtiejmkjpgjbodaaGreatDoorTie.lean); close each card by the builder's one call (the guide's Derived/Test/ToyasCard.lean, 'card_holds'). Laid BY PROGRAM, IN A SANDBOX (cutbox-door.mjs). By AI agents, Wed Nov 11 2026. No macro, syntax, notation, axiom, sorry.
-/
import Derived.Test.YtiejmkjpgjbodaaGreatDoorRows
import GoSem.ClaimSeven
namespace Go.Proofs.YtiejmkjpgjbodaaGreatDoor
namespace Rows

/-- THE TIED CARD OF 'muslinlaw20.PlainStable'. -/
def plainStableCard : Claim7 := { stood := { row := plainStableRow, standIns := [], harness := (true, "dbf89a03c923a9e3986336f26955835a04a736f549dbbd1d3553031e618c08c8"), looks := true }, kinds := [], alts := [], laidByText := true, laidKinds := [.data, .data, .data, .data, .sentinel, .sentinel, .data, .pinned], laidTests := true, laidLooks := .later }
def PlainStableCardSaid : Prop := Claim7.holds Tryz.pinned (.plain (OpenSpec.ofChange plainStableSpec)) plainStableCard

/-- THE TIED CARD OF 'muslinlaw14.TreeBuilds'. -/
def treeBuildsCard : Claim7 := { stood := { row := treeBuildsRow, standIns := [], harness := (true, "dbf89a03c923a9e3986336f26955835a04a736f549dbbd1d3553031e618c08c8"), looks := true }, kinds := [], alts := [], laidByText := true, laidKinds := [.data, .data, .data, .data, .sentinel, .sentinel, .data, .pinned], laidTests := true, laidLooks := .later }
def TreeBuildsCardSaid : Prop := Claim7.holds Tryz.pinned (.plain (OpenSpec.ofChange treeBuildsSpec)) treeBuildsCard

/-- THE TIED CARD OF 'muslinlaw15.SerWrites'. -/
def serWritesCard : Claim7 := { stood := { row := serWritesRow, standIns := [], harness := (true, "dbf89a03c923a9e3986336f26955835a04a736f549dbbd1d3553031e618c08c8"), looks := true }, kinds := [], alts := [], laidByText := true, laidKinds := [.data, .data, .data, .data, .sentinel, .sentinel, .data, .pinned], laidTests := true, laidLooks := .later }
def SerWritesCardSaid : Prop := Claim7.holds Tryz.pinned (.plain (OpenSpec.ofChange serWritesSpec)) serWritesCard

/-- THE TIED CARD OF 'muslinlaw15.SerShut'. -/
def serShutCard : Claim7 := { stood := { row := serShutRow, standIns := [], harness := (true, "dbf89a03c923a9e3986336f26955835a04a736f549dbbd1d3553031e618c08c8"), looks := true }, kinds := [], alts := [], laidByText := true, laidKinds := [.data, .data, .data, .data, .sentinel, .sentinel, .data, .pinned], laidTests := true, laidLooks := .later }
def SerShutCardSaid : Prop := Claim7.holds Tryz.pinned (.plain (OpenSpec.ofChange serShutSpec)) serShutCard

/-- THE SECOND FORM's CARD OF 'muslinlaw20.PlainStable'. -/
def plainStableUptoCard : Claim7 := { stood := { row := plainStableUptoRow, standIns := [], harness := (true, "dbf89a03c923a9e3986336f26955835a04a736f549dbbd1d3553031e618c08c8"), looks := true }, kinds := [], alts := [], laidByText := true, laidKinds := [.data, .data, .data, .data, .sentinel, .sentinel, .data, .pinned], laidTests := true, laidLooks := .later }
def PlainStableUptoCardSaid : Prop := Claim7.holds Tryz.pinned (.plain (OpenSpec.upto plainStableSpec)) plainStableUptoCard

/-- THE SECOND FORM's CARD OF 'muslinlaw14.TreeBuilds'. -/
def treeBuildsUptoCard : Claim7 := { stood := { row := treeBuildsUptoRow, standIns := [], harness := (true, "dbf89a03c923a9e3986336f26955835a04a736f549dbbd1d3553031e618c08c8"), looks := true }, kinds := [], alts := [], laidByText := true, laidKinds := [.data, .data, .data, .data, .sentinel, .sentinel, .data, .pinned], laidTests := true, laidLooks := .later }
def TreeBuildsUptoCardSaid : Prop := Claim7.holds Tryz.pinned (.plain (OpenSpec.upto treeBuildsSpec)) treeBuildsUptoCard

/-- THE SECOND FORM's CARD OF 'muslinlaw15.SerWrites'. -/
def serWritesUptoCard : Claim7 := { stood := { row := serWritesUptoRow, standIns := [], harness := (true, "dbf89a03c923a9e3986336f26955835a04a736f549dbbd1d3553031e618c08c8"), looks := true }, kinds := [], alts := [], laidByText := true, laidKinds := [.data, .data, .data, .data, .sentinel, .sentinel, .data, .pinned], laidTests := true, laidLooks := .later }
def SerWritesUptoCardSaid : Prop := Claim7.holds Tryz.pinned (.plain (OpenSpec.upto serWritesSpec)) serWritesUptoCard

/-- THE SECOND FORM's CARD OF 'muslinlaw15.SerShut'. -/
def serShutUptoCard : Claim7 := { stood := { row := serShutUptoRow, standIns := [], harness := (true, "dbf89a03c923a9e3986336f26955835a04a736f549dbbd1d3553031e618c08c8"), looks := true }, kinds := [], alts := [], laidByText := true, laidKinds := [.data, .data, .data, .data, .sentinel, .sentinel, .data, .pinned], laidTests := true, laidLooks := .later }
def SerShutUptoCardSaid : Prop := Claim7.holds Tryz.pinned (.plain (OpenSpec.upto serShutSpec)) serShutUptoCard
end Rows
end Go.Proofs.YtiejmkjpgjbodaaGreatDoor
