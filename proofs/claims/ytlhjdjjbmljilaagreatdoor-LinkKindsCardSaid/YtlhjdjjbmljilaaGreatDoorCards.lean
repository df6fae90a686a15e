/-
  DERIVED. GIVEN WITH THE SEED: THE CARDS: each row of YtlhjdjjbmljilaaGreatDoorRows.lean that lists a variable, with what it lists TIED to the program's text (the seventh form; the later family's looks); each row that meets fmt, with fmt's text TOLD by the authors' own Lean function (tested against real Go, not proved from fmt's source: count such statements apart). THE CARD IS WHAT COUNTS. Prove the row's statement (the work); the ties are given (YtlhjdjjbmljilaaGreatDoorTie.lean); close each card by the builder's one call (the guide's Derived/Test/ToyasCard.lean, 'card_holds'). Laid BY PROGRAM, IN A SANDBOX (cutbox-door.mjs). By AI agents, Wed Nov 11 2026. No macro, syntax, notation, axiom, sorry.
-/
import Derived.Test.YtlhjdjjbmljilaaGreatDoorRows
import GoSem.ClaimSeven
namespace Go.Proofs.YtlhjdjjbmljilaaGreatDoor
namespace Rows

/-- THE TIED CARD OF 'muslinlaw16.LinkKinds'. -/
def linkKindsCard : Claim7 := { stood := { row := linkKindsRow, standIns := [], harness := (true, "2013b2dc418ae2f043b7405f459f5db437f2f78778b36cd466a1dd9a8f5c73f4"), looks := true }, kinds := [], alts := [], laidByText := true, laidKinds := [.data, .pinned], laidTests := true, laidLooks := .later }
def LinkKindsCardSaid : Prop := Claim7.holds Tryz.pinned (.plain (OpenSpec.ofChange linkKindsSpec)) linkKindsCard

/-- THE SECOND FORM's CARD OF 'muslinlaw16.LinkKinds'. -/
def linkKindsUptoCard : Claim7 := { stood := { row := linkKindsUptoRow, standIns := [], harness := (true, "2013b2dc418ae2f043b7405f459f5db437f2f78778b36cd466a1dd9a8f5c73f4"), looks := true }, kinds := [], alts := [], laidByText := true, laidKinds := [.data, .pinned], laidTests := true, laidLooks := .later }
def LinkKindsUptoCardSaid : Prop := Claim7.holds Tryz.pinned (.plain (OpenSpec.upto linkKindsSpec)) linkKindsUptoCard
end Rows
end Go.Proofs.YtlhjdjjbmljilaaGreatDoor
