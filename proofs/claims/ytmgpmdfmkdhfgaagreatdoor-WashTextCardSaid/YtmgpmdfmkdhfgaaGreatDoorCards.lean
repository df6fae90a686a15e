/-
  DERIVED. GIVEN WITH THE SEED: THE CARDS: each row of YtmgpmdfmkdhfgaaGreatDoorRows.lean that lists a variable, with what it lists TIED to the program's text (the seventh form; the later family's looks); each row that meets fmt, with fmt's text TOLD by the authors' own Lean function (tested against real Go, not proved from fmt's source: count such statements apart). THE CARD IS WHAT COUNTS. Prove the row's statement (the work); the ties are given (YtmgpmdfmkdhfgaaGreatDoorTie.lean); close each card by the builder's one call (the guide's Derived/Test/ToyasCard.lean, 'card_holds'). Laid BY PROGRAM, IN A SANDBOX (cutbox-door.mjs). By AI agents, Wed Nov 11 2026. No macro, syntax, notation, axiom, sorry.
-/
import Derived.Test.YtmgpmdfmkdhfgaaGreatDoorRows
import GoSem.ClaimSeven
namespace Go.Proofs.YtmgpmdfmkdhfgaaGreatDoor
namespace Rows

/-- THE TIED CARD OF 'muslinlaw19.WashPure'. -/
def washPureCard : Claim7 := { stood := { row := washPureRow, standIns := [], harness := (true, "51d744334bf06f065f4555e181b2b3652baac10c3e008054564a495f7f3780d8"), looks := true }, kinds := [], alts := [], laidByText := true, laidKinds := [.data, .data, .data, .data, .sentinel, .sentinel, .data, .data, .pinned], laidTests := true, laidLooks := .later }
def WashPureCardSaid : Prop := Claim7.holds Tryz.pinned (.plain (OpenSpec.ofChange washPureSpec)) washPureCard

/-- THE TIED CARD OF 'muslinlaw19.WashText'. -/
def washTextCard : Claim7 := { stood := { row := washTextRow, standIns := [], harness := (true, "51d744334bf06f065f4555e181b2b3652baac10c3e008054564a495f7f3780d8"), looks := true }, kinds := [], alts := [], laidByText := true, laidKinds := [.data, .data, .data, .data, .sentinel, .sentinel, .data, .data, .pinned], laidTests := true, laidLooks := .later }
def WashTextCardSaid : Prop := Claim7.holds Tryz.pinned (.plain (OpenSpec.ofChange washTextSpec)) washTextCard

/-- THE TIED CARD OF 'muslinlaw19.WashDrops'. -/
def washDropsCard : Claim7 := { stood := { row := washDropsRow, standIns := [], harness := (true, "51d744334bf06f065f4555e181b2b3652baac10c3e008054564a495f7f3780d8"), looks := true }, kinds := [], alts := [], laidByText := true, laidKinds := [.data, .data, .data, .data, .sentinel, .sentinel, .data, .data, .pinned], laidTests := true, laidLooks := .later }
def WashDropsCardSaid : Prop := Claim7.holds Tryz.pinned (.plain (OpenSpec.ofChange washDropsSpec)) washDropsCard

/-- THE SECOND FORM's CARD OF 'muslinlaw19.WashPure'. -/
def washPureUptoCard : Claim7 := { stood := { row := washPureUptoRow, standIns := [], harness := (true, "51d744334bf06f065f4555e181b2b3652baac10c3e008054564a495f7f3780d8"), looks := true }, kinds := [], alts := [], laidByText := true, laidKinds := [.data, .data, .data, .data, .sentinel, .sentinel, .data, .data, .pinned], laidTests := true, laidLooks := .later }
def WashPureUptoCardSaid : Prop := Claim7.holds Tryz.pinned (.plain (OpenSpec.upto washPureSpec)) washPureUptoCard

/-- THE SECOND FORM's CARD OF 'muslinlaw19.WashText'. -/
def washTextUptoCard : Claim7 := { stood := { row := washTextUptoRow, standIns := [], harness := (true, "51d744334bf06f065f4555e181b2b3652baac10c3e008054564a495f7f3780d8"), looks := true }, kinds := [], alts := [], laidByText := true, laidKinds := [.data, .data, .data, .data, .sentinel, .sentinel, .data, .data, .pinned], laidTests := true, laidLooks := .later }
def WashTextUptoCardSaid : Prop := Claim7.holds Tryz.pinned (.plain (OpenSpec.upto washTextSpec)) washTextUptoCard

/-- THE SECOND FORM's CARD OF 'muslinlaw19.WashDrops'. -/
def washDropsUptoCard : Claim7 := { stood := { row := washDropsUptoRow, standIns := [], harness := (true, "51d744334bf06f065f4555e181b2b3652baac10c3e008054564a495f7f3780d8"), looks := true }, kinds := [], alts := [], laidByText := true, laidKinds := [.data, .data, .data, .data, .sentinel, .sentinel, .data, .data, .pinned], laidTests := true, laidLooks := .later }
def WashDropsUptoCardSaid : Prop := Claim7.holds Tryz.pinned (.plain (OpenSpec.upto washDropsSpec)) washDropsUptoCard
end Rows
end Go.Proofs.YtmgpmdfmkdhfgaaGreatDoor
