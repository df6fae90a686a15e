/-
  DERIVED. GIVEN WITH THE SEED: THE CARDS: each row of YtiojfknphpnlhaaDoorRows.lean that lists a variable, with what it lists TIED to the program's text (the seventh form; the later family's looks); each row that meets fmt, with fmt's text TOLD by the authors' own Lean function (tested against real Go, not proved from fmt's source: count such statements apart). THE CARD IS WHAT COUNTS. Prove the row's statement (the work); the ties are given (YtiojfknphpnlhaaDoorTie.lean); close each card by the builder's one call (the guide's Derived/Test/ToyasCard.lean, 'card_holds'). Laid BY PROGRAM, IN A SANDBOX (cutbox-door.mjs). By AI agents, Wed Nov 11 2026. No macro, syntax, notation, axiom, sorry.
-/
import Derived.Test.YtiojfknphpnlhaaDoorRows
import GoSem.ClaimSeven
namespace Go.Proofs.YtiojfknphpnlhaaDoor
namespace Rows

/-- THE TIED CARD OF 'muslinlaw09.StampParses'. -/
def stampParsesCard : Claim7 := { stood := { row := stampParsesRow, standIns := [], harness := (true, "01b1fa07081e5826344595a28f491e68d5d3a438a59862674026ea23dea3c63d"), looks := false }, kinds := [], alts := [], laidByText := true, laidKinds := [.data, .data, .data, .data, .data, .data, .data, .data, .pinned], laidTests := true, laidLooks := .later }
def StampParsesCardSaid : Prop := Claim7.holds Tryd.pinned (.plain (OpenSpec.ofChange stampParsesSpec)) stampParsesCard

/-- THE TIED CARD OF 'muslinlaw09.StampWrites'. -/
def stampWritesCard : Claim7 := { stood := { row := stampWritesRow, standIns := [], harness := (true, "01b1fa07081e5826344595a28f491e68d5d3a438a59862674026ea23dea3c63d"), looks := false }, kinds := [], alts := [], laidByText := true, laidKinds := [.data, .data, .data, .data, .data, .data, .data, .data, .pinned], laidTests := true, laidLooks := .later }
def StampWritesCardSaid : Prop := Claim7.holds Tryd.pinned (.plain (OpenSpec.ofChange stampWritesSpec)) stampWritesCard

/-- THE TIED CARD OF 'muslinlaw09.StampDays'. -/
def stampDaysCard : Claim7 := { stood := { row := stampDaysRow, standIns := [], harness := (true, "01b1fa07081e5826344595a28f491e68d5d3a438a59862674026ea23dea3c63d"), looks := false }, kinds := [], alts := [], laidByText := true, laidKinds := [.data, .data, .data, .data, .data, .data, .data, .data, .pinned], laidTests := true, laidLooks := .later }
def StampDaysCardSaid : Prop := Claim7.holds Tryd.pinned (.plain (OpenSpec.ofChange stampDaysSpec)) stampDaysCard

/-- THE TIED CARD OF 'muslinlaw09.StampBack'. -/
def stampBackCard : Claim7 := { stood := { row := stampBackRow, standIns := [], harness := (true, "01b1fa07081e5826344595a28f491e68d5d3a438a59862674026ea23dea3c63d"), looks := false }, kinds := [], alts := [], laidByText := true, laidKinds := [.data, .data, .data, .data, .data, .data, .data, .data, .pinned], laidTests := true, laidLooks := .later }
def StampBackCardSaid : Prop := Claim7.holds Tryd.pinned (.plain (OpenSpec.ofChange stampBackSpec)) stampBackCard

/-- THE TIED CARD OF 'muslinlaw09.StampNext'. -/
def stampNextCard : Claim7 := { stood := { row := stampNextRow, standIns := [], harness := (true, "01b1fa07081e5826344595a28f491e68d5d3a438a59862674026ea23dea3c63d"), looks := false }, kinds := [], alts := [], laidByText := true, laidKinds := [.data, .data, .data, .data, .data, .data, .data, .data, .pinned], laidTests := true, laidLooks := .later }
def StampNextCardSaid : Prop := Claim7.holds Tryd.pinned (.plain (OpenSpec.ofChange stampNextSpec)) stampNextCard

/-- THE TIED CARD OF 'muslinlaw09.StampZones'. -/
def stampZonesCard : Claim7 := { stood := { row := stampZonesRow, standIns := [], harness := (true, "01b1fa07081e5826344595a28f491e68d5d3a438a59862674026ea23dea3c63d"), looks := false }, kinds := [], alts := [], laidByText := true, laidKinds := [.data, .data, .data, .data, .data, .data, .data, .data, .pinned], laidTests := true, laidLooks := .later }
def StampZonesCardSaid : Prop := Claim7.holds Tryd.pinned (.plain (OpenSpec.ofChange stampZonesSpec)) stampZonesCard

/-- THE TIED CARD OF 'muslinlaw09.StampWeek'. -/
def stampWeekCard : Claim7 := { stood := { row := stampWeekRow, standIns := [], harness := (true, "01b1fa07081e5826344595a28f491e68d5d3a438a59862674026ea23dea3c63d"), looks := false }, kinds := [], alts := [], laidByText := true, laidKinds := [.data, .data, .data, .data, .data, .data, .data, .data, .pinned], laidTests := true, laidLooks := .later }
def StampWeekCardSaid : Prop := Claim7.holds Tryd.pinned (.plain (OpenSpec.ofChange stampWeekSpec)) stampWeekCard

/-- THE SECOND FORM's CARD OF 'muslinlaw09.StampParses'. -/
def stampParsesUptoCard : Claim7 := { stood := { row := stampParsesUptoRow, standIns := [], harness := (true, "01b1fa07081e5826344595a28f491e68d5d3a438a59862674026ea23dea3c63d"), looks := false }, kinds := [], alts := [], laidByText := true, laidKinds := [.data, .data, .data, .data, .data, .data, .data, .data, .pinned], laidTests := true, laidLooks := .later }
def StampParsesUptoCardSaid : Prop := Claim7.holds Tryd.pinned (.plain (OpenSpec.upto stampParsesSpec)) stampParsesUptoCard

/-- THE SECOND FORM's CARD OF 'muslinlaw09.StampWrites'. -/
def stampWritesUptoCard : Claim7 := { stood := { row := stampWritesUptoRow, standIns := [], harness := (true, "01b1fa07081e5826344595a28f491e68d5d3a438a59862674026ea23dea3c63d"), looks := false }, kinds := [], alts := [], laidByText := true, laidKinds := [.data, .data, .data, .data, .data, .data, .data, .data, .pinned], laidTests := true, laidLooks := .later }
def StampWritesUptoCardSaid : Prop := Claim7.holds Tryd.pinned (.plain (OpenSpec.upto stampWritesSpec)) stampWritesUptoCard

/-- THE SECOND FORM's CARD OF 'muslinlaw09.StampDays'. -/
def stampDaysUptoCard : Claim7 := { stood := { row := stampDaysUptoRow, standIns := [], harness := (true, "01b1fa07081e5826344595a28f491e68d5d3a438a59862674026ea23dea3c63d"), looks := false }, kinds := [], alts := [], laidByText := true, laidKinds := [.data, .data, .data, .data, .data, .data, .data, .data, .pinned], laidTests := true, laidLooks := .later }
def StampDaysUptoCardSaid : Prop := Claim7.holds Tryd.pinned (.plain (OpenSpec.upto stampDaysSpec)) stampDaysUptoCard

/-- THE SECOND FORM's CARD OF 'muslinlaw09.StampBack'. -/
def stampBackUptoCard : Claim7 := { stood := { row := stampBackUptoRow, standIns := [], harness := (true, "01b1fa07081e5826344595a28f491e68d5d3a438a59862674026ea23dea3c63d"), looks := false }, kinds := [], alts := [], laidByText := true, laidKinds := [.data, .data, .data, .data, .data, .data, .data, .data, .pinned], laidTests := true, laidLooks := .later }
def StampBackUptoCardSaid : Prop := Claim7.holds Tryd.pinned (.plain (OpenSpec.upto stampBackSpec)) stampBackUptoCard

/-- THE SECOND FORM's CARD OF 'muslinlaw09.StampNext'. -/
def stampNextUptoCard : Claim7 := { stood := { row := stampNextUptoRow, standIns := [], harness := (true, "01b1fa07081e5826344595a28f491e68d5d3a438a59862674026ea23dea3c63d"), looks := false }, kinds := [], alts := [], laidByText := true, laidKinds := [.data, .data, .data, .data, .data, .data, .data, .data, .pinned], laidTests := true, laidLooks := .later }
def StampNextUptoCardSaid : Prop := Claim7.holds Tryd.pinned (.plain (OpenSpec.upto stampNextSpec)) stampNextUptoCard

/-- THE SECOND FORM's CARD OF 'muslinlaw09.StampZones'. -/
def stampZonesUptoCard : Claim7 := { stood := { row := stampZonesUptoRow, standIns := [], harness := (true, "01b1fa07081e5826344595a28f491e68d5d3a438a59862674026ea23dea3c63d"), looks := false }, kinds := [], alts := [], laidByText := true, laidKinds := [.data, .data, .data, .data, .data, .data, .data, .data, .pinned], laidTests := true, laidLooks := .later }
def StampZonesUptoCardSaid : Prop := Claim7.holds Tryd.pinned (.plain (OpenSpec.upto stampZonesSpec)) stampZonesUptoCard

/-- THE SECOND FORM's CARD OF 'muslinlaw09.StampWeek'. -/
def stampWeekUptoCard : Claim7 := { stood := { row := stampWeekUptoRow, standIns := [], harness := (true, "01b1fa07081e5826344595a28f491e68d5d3a438a59862674026ea23dea3c63d"), looks := false }, kinds := [], alts := [], laidByText := true, laidKinds := [.data, .data, .data, .data, .data, .data, .data, .data, .pinned], laidTests := true, laidLooks := .later }
def StampWeekUptoCardSaid : Prop := Claim7.holds Tryd.pinned (.plain (OpenSpec.upto stampWeekSpec)) stampWeekUptoCard
end Rows
end Go.Proofs.YtiojfknphpnlhaaDoor
