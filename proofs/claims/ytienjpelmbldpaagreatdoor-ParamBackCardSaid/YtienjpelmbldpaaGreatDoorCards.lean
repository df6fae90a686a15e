/-
  DERIVED. GIVEN WITH THE SEED: THE CARDS: each row of YtienjpelmbldpaaGreatDoorRows.lean that lists a variable, with what it lists TIED to the program's text (the seventh form; the later family's looks); each row that meets fmt, with fmt's text TOLD by the authors' own Lean function (tested against real Go, not proved from fmt's source: count such statements apart). THE CARD IS WHAT COUNTS. Prove the row's statement (the work); the ties are given (YtienjpelmbldpaaGreatDoorTie.lean); close each card by the builder's one call (the guide's Derived/Test/ToyasCard.lean, 'card_holds'). Laid BY PROGRAM, IN A SANDBOX (cutbox-door.mjs). By AI agents, Wed Nov 11 2026. No macro, syntax, notation, axiom, sorry.
-/
import Derived.Test.YtienjpelmbldpaaGreatDoorRows
import GoSem.ClaimSeven
namespace Go.Proofs.YtienjpelmbldpaaGreatDoor
namespace Rows

/-- THE TIED CARD OF 'muslinlaw07.ParamParses'. -/
def paramParsesCard : Claim7 := { stood := { row := paramParsesRow, standIns := [], harness := (true, "fc6884c4beae10fd2482e6260444513f599abd97f2a85719cd5329dab8e4447a"), looks := true }, kinds := [], alts := [], laidByText := true, laidKinds := [.data, .data, .data, .data, .data, .pinned], laidTests := true, laidLooks := .later }
def ParamParsesCardSaid : Prop := Claim7.holds Tryz.pinned (.plain (OpenSpec.ofChange paramParsesSpec)) paramParsesCard

/-- THE TIED CARD OF 'muslinlaw07.ParamWrites'. -/
def paramWritesCard : Claim7 := { stood := { row := paramWritesRow, standIns := [], harness := (true, "fc6884c4beae10fd2482e6260444513f599abd97f2a85719cd5329dab8e4447a"), looks := true }, kinds := [], alts := [], laidByText := true, laidKinds := [.data, .data, .data, .data, .data, .pinned], laidTests := true, laidLooks := .later }
def ParamWritesCardSaid : Prop := Claim7.holds Tryz.pinned (.plain (OpenSpec.ofChange paramWritesSpec)) paramWritesCard

/-- THE TIED CARD OF 'muslinlaw07.ParamBack'. -/
def paramBackCard : Claim7 := { stood := { row := paramBackRow, standIns := [], harness := (true, "fc6884c4beae10fd2482e6260444513f599abd97f2a85719cd5329dab8e4447a"), looks := true }, kinds := [], alts := [], laidByText := true, laidKinds := [.data, .data, .data, .data, .data, .pinned], laidTests := true, laidLooks := .later }
def ParamBackCardSaid : Prop := Claim7.holds Tryz.pinned (.plain (OpenSpec.ofChange paramBackSpec)) paramBackCard

/-- THE TIED CARD OF 'muslinlaw07.ParamOnce'. -/
def paramOnceCard : Claim7 := { stood := { row := paramOnceRow, standIns := [], harness := (true, "fc6884c4beae10fd2482e6260444513f599abd97f2a85719cd5329dab8e4447a"), looks := true }, kinds := [], alts := [], laidByText := true, laidKinds := [.data, .data, .data, .data, .data, .pinned], laidTests := true, laidLooks := .later }
def ParamOnceCardSaid : Prop := Claim7.holds Tryz.pinned (.plain (OpenSpec.ofChange paramOnceSpec)) paramOnceCard

/-- THE TIED CARD OF 'muslinlaw07.ParamMain'. -/
def paramMainCard : Claim7 := { stood := { row := paramMainRow, standIns := [], harness := (true, "fc6884c4beae10fd2482e6260444513f599abd97f2a85719cd5329dab8e4447a"), looks := true }, kinds := [], alts := [], laidByText := true, laidKinds := [.data, .data, .data, .data, .data, .pinned], laidTests := true, laidLooks := .later }
def ParamMainCardSaid : Prop := Claim7.holds Tryz.pinned (.plain (OpenSpec.ofChange paramMainSpec)) paramMainCard

/-- THE SECOND FORM's CARD OF 'muslinlaw07.ParamParses'. -/
def paramParsesUptoCard : Claim7 := { stood := { row := paramParsesUptoRow, standIns := [], harness := (true, "fc6884c4beae10fd2482e6260444513f599abd97f2a85719cd5329dab8e4447a"), looks := true }, kinds := [], alts := [], laidByText := true, laidKinds := [.data, .data, .data, .data, .data, .pinned], laidTests := true, laidLooks := .later }
def ParamParsesUptoCardSaid : Prop := Claim7.holds Tryz.pinned (.plain (OpenSpec.upto paramParsesSpec)) paramParsesUptoCard

/-- THE SECOND FORM's CARD OF 'muslinlaw07.ParamWrites'. -/
def paramWritesUptoCard : Claim7 := { stood := { row := paramWritesUptoRow, standIns := [], harness := (true, "fc6884c4beae10fd2482e6260444513f599abd97f2a85719cd5329dab8e4447a"), looks := true }, kinds := [], alts := [], laidByText := true, laidKinds := [.data, .data, .data, .data, .data, .pinned], laidTests := true, laidLooks := .later }
def ParamWritesUptoCardSaid : Prop := Claim7.holds Tryz.pinned (.plain (OpenSpec.upto paramWritesSpec)) paramWritesUptoCard

/-- THE SECOND FORM's CARD OF 'muslinlaw07.ParamBack'. -/
def paramBackUptoCard : Claim7 := { stood := { row := paramBackUptoRow, standIns := [], harness := (true, "fc6884c4beae10fd2482e6260444513f599abd97f2a85719cd5329dab8e4447a"), looks := true }, kinds := [], alts := [], laidByText := true, laidKinds := [.data, .data, .data, .data, .data, .pinned], laidTests := true, laidLooks := .later }
def ParamBackUptoCardSaid : Prop := Claim7.holds Tryz.pinned (.plain (OpenSpec.upto paramBackSpec)) paramBackUptoCard

/-- THE SECOND FORM's CARD OF 'muslinlaw07.ParamOnce'. -/
def paramOnceUptoCard : Claim7 := { stood := { row := paramOnceUptoRow, standIns := [], harness := (true, "fc6884c4beae10fd2482e6260444513f599abd97f2a85719cd5329dab8e4447a"), looks := true }, kinds := [], alts := [], laidByText := true, laidKinds := [.data, .data, .data, .data, .data, .pinned], laidTests := true, laidLooks := .later }
def ParamOnceUptoCardSaid : Prop := Claim7.holds Tryz.pinned (.plain (OpenSpec.upto paramOnceSpec)) paramOnceUptoCard

/-- THE SECOND FORM's CARD OF 'muslinlaw07.ParamMain'. -/
def paramMainUptoCard : Claim7 := { stood := { row := paramMainUptoRow, standIns := [], harness := (true, "fc6884c4beae10fd2482e6260444513f599abd97f2a85719cd5329dab8e4447a"), looks := true }, kinds := [], alts := [], laidByText := true, laidKinds := [.data, .data, .data, .data, .data, .pinned], laidTests := true, laidLooks := .later }
def ParamMainUptoCardSaid : Prop := Claim7.holds Tryz.pinned (.plain (OpenSpec.upto paramMainSpec)) paramMainUptoCard
end Rows
end Go.Proofs.YtienjpelmbldpaaGreatDoor
