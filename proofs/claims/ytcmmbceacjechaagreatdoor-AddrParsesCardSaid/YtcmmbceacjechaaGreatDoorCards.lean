/-
  DERIVED. GIVEN WITH THE SEED: THE CARDS: each row of YtcmmbceacjechaaGreatDoorRows.lean that lists a variable, with what it lists TIED to the program's text (the seventh form; the later family's looks); each row that meets fmt, with fmt's text TOLD by the authors' own Lean function (tested against real Go, not proved from fmt's source: count such statements apart). THE CARD IS WHAT COUNTS. Prove the row's statement (the work); the ties are given (YtcmmbceacjechaaGreatDoorTie.lean); close each card by the builder's one call (the guide's Derived/Test/ToyasCard.lean, 'card_holds'). Laid BY PROGRAM, IN A SANDBOX (cutbox-door.mjs). By AI agents, Wed Nov 11 2026. No macro, syntax, notation, axiom, sorry.
-/
import Derived.Test.YtcmmbceacjechaaGreatDoorRows
import GoSem.ClaimSeven
namespace Go.Proofs.YtcmmbceacjechaaGreatDoor
namespace Rows

/-- THE TIED CARD OF 'muslinlaw07.ParamParses'. -/
def paramParsesCard : Claim7 := { stood := { row := paramParsesRow, standIns := [], harness := (true, "69b21191d4029626c736209d844ea064426ee593b3e4ceaf2254f289e5ebf673"), looks := true }, kinds := [], alts := [], laidByText := true, laidKinds := [.data, .data, .data, .data, .data, .pinned], laidTests := true, laidLooks := .later }
def ParamParsesCardSaid : Prop := Claim7.holds Tryz.pinned (.plain (OpenSpec.ofChange paramParsesSpec)) paramParsesCard

/-- THE TIED CARD OF 'muslinlaw07.ParamWrites'. -/
def paramWritesCard : Claim7 := { stood := { row := paramWritesRow, standIns := [], harness := (true, "69b21191d4029626c736209d844ea064426ee593b3e4ceaf2254f289e5ebf673"), looks := true }, kinds := [], alts := [], laidByText := true, laidKinds := [.data, .data, .data, .data, .data, .pinned], laidTests := true, laidLooks := .later }
def ParamWritesCardSaid : Prop := Claim7.holds Tryz.pinned (.plain (OpenSpec.ofChange paramWritesSpec)) paramWritesCard

/-- THE TIED CARD OF 'muslinlaw07.ParamBack'. -/
def paramBackCard : Claim7 := { stood := { row := paramBackRow, standIns := [], harness := (true, "69b21191d4029626c736209d844ea064426ee593b3e4ceaf2254f289e5ebf673"), looks := true }, kinds := [], alts := [], laidByText := true, laidKinds := [.data, .data, .data, .data, .data, .pinned], laidTests := true, laidLooks := .later }
def ParamBackCardSaid : Prop := Claim7.holds Tryz.pinned (.plain (OpenSpec.ofChange paramBackSpec)) paramBackCard

/-- THE TIED CARD OF 'muslinlaw07.ParamOnce'. -/
def paramOnceCard : Claim7 := { stood := { row := paramOnceRow, standIns := [], harness := (true, "69b21191d4029626c736209d844ea064426ee593b3e4ceaf2254f289e5ebf673"), looks := true }, kinds := [], alts := [], laidByText := true, laidKinds := [.data, .data, .data, .data, .data, .pinned], laidTests := true, laidLooks := .later }
def ParamOnceCardSaid : Prop := Claim7.holds Tryz.pinned (.plain (OpenSpec.ofChange paramOnceSpec)) paramOnceCard

/-- THE TIED CARD OF 'muslinlaw07.ParamMain'. -/
def paramMainCard : Claim7 := { stood := { row := paramMainRow, standIns := [], harness := (true, "69b21191d4029626c736209d844ea064426ee593b3e4ceaf2254f289e5ebf673"), looks := true }, kinds := [], alts := [], laidByText := true, laidKinds := [.data, .data, .data, .data, .data, .pinned], laidTests := true, laidLooks := .later }
def ParamMainCardSaid : Prop := Claim7.holds Tryz.pinned (.plain (OpenSpec.ofChange paramMainSpec)) paramMainCard

/-- THE TIED CARD OF 'muslinlaw08.AddrParses'. -/
def addrParsesCard : Claim7 := { stood := { row := addrParsesRow, standIns := [], harness := (true, "69b21191d4029626c736209d844ea064426ee593b3e4ceaf2254f289e5ebf673"), looks := true }, kinds := [], alts := [], laidByText := true, laidKinds := [.data, .data, .pinned], laidTests := true, laidLooks := .later }
def AddrParsesCardSaid : Prop := Claim7.holds Tryz.pinned (.plain (OpenSpec.ofChange addrParsesSpec)) addrParsesCard

/-- THE TIED CARD OF 'muslinlaw10.PartsParses'. -/
def partsParsesCard : Claim7 := { stood := { row := partsParsesRow, standIns := [], harness := (true, "69b21191d4029626c736209d844ea064426ee593b3e4ceaf2254f289e5ebf673"), looks := true }, kinds := [], alts := [], laidByText := true, laidKinds := [.data, .data, .data, .data, .data, .pinned], laidTests := true, laidLooks := .later }
def PartsParsesCardSaid : Prop := Claim7.holds Tryz.pinned (.plain (OpenSpec.ofChange partsParsesSpec)) partsParsesCard

/-- THE TIED CARD OF 'muslinlaw10.PartsCuts'. -/
def partsCutsCard : Claim7 := { stood := { row := partsCutsRow, standIns := [], harness := (true, "69b21191d4029626c736209d844ea064426ee593b3e4ceaf2254f289e5ebf673"), looks := true }, kinds := [], alts := [], laidByText := true, laidKinds := [.data, .data, .data, .data, .data, .pinned], laidTests := true, laidLooks := .later }
def PartsCutsCardSaid : Prop := Claim7.holds Tryz.pinned (.plain (OpenSpec.ofChange partsCutsSpec)) partsCutsCard

/-- THE TIED CARD OF 'muslinlaw10.PartsBound'. -/
def partsBoundCard : Claim7 := { stood := { row := partsBoundRow, standIns := [], harness := (true, "69b21191d4029626c736209d844ea064426ee593b3e4ceaf2254f289e5ebf673"), looks := true }, kinds := [], alts := [], laidByText := true, laidKinds := [.data, .data, .data, .data, .data, .pinned], laidTests := true, laidLooks := .later }
def PartsBoundCardSaid : Prop := Claim7.holds Tryz.pinned (.plain (OpenSpec.ofChange partsBoundSpec)) partsBoundCard

/-- THE TIED CARD OF 'muslinlaw10.PartsJoined'. -/
def partsJoinedCard : Claim7 := { stood := { row := partsJoinedRow, standIns := [], harness := (true, "69b21191d4029626c736209d844ea064426ee593b3e4ceaf2254f289e5ebf673"), looks := true }, kinds := [], alts := [], laidByText := true, laidKinds := [.data, .data, .data, .data, .data, .pinned], laidTests := true, laidLooks := .later }
def PartsJoinedCardSaid : Prop := Claim7.holds Tryz.pinned (.plain (OpenSpec.ofChange partsJoinedSpec)) partsJoinedCard

/-- THE TIED CARD OF 'muslinlaw10.PartsPlain'. -/
def partsPlainCard : Claim7 := { stood := { row := partsPlainRow, standIns := [], harness := (true, "69b21191d4029626c736209d844ea064426ee593b3e4ceaf2254f289e5ebf673"), looks := true }, kinds := [], alts := [], laidByText := true, laidKinds := [.data, .data, .data, .data, .data, .pinned], laidTests := true, laidLooks := .later }
def PartsPlainCardSaid : Prop := Claim7.holds Tryz.pinned (.plain (OpenSpec.ofChange partsPlainSpec)) partsPlainCard

/-- THE TIED CARD OF 'muslinlaw10.PartsMessage'. -/
def partsMessageCard : Claim7 := { stood := { row := partsMessageRow, standIns := [], harness := (true, "69b21191d4029626c736209d844ea064426ee593b3e4ceaf2254f289e5ebf673"), looks := true }, kinds := [], alts := [], laidByText := true, laidKinds := [.data, .data, .data, .data, .data, .pinned], laidTests := true, laidLooks := .later }
def PartsMessageCardSaid : Prop := Claim7.holds Tryz.pinned (.plain (OpenSpec.ofChange partsMessageSpec)) partsMessageCard

/-- THE SECOND FORM's CARD OF 'muslinlaw07.ParamParses'. -/
def paramParsesUptoCard : Claim7 := { stood := { row := paramParsesUptoRow, standIns := [], harness := (true, "69b21191d4029626c736209d844ea064426ee593b3e4ceaf2254f289e5ebf673"), looks := true }, kinds := [], alts := [], laidByText := true, laidKinds := [.data, .data, .data, .data, .data, .pinned], laidTests := true, laidLooks := .later }
def ParamParsesUptoCardSaid : Prop := Claim7.holds Tryz.pinned (.plain (OpenSpec.upto paramParsesSpec)) paramParsesUptoCard

/-- THE SECOND FORM's CARD OF 'muslinlaw07.ParamWrites'. -/
def paramWritesUptoCard : Claim7 := { stood := { row := paramWritesUptoRow, standIns := [], harness := (true, "69b21191d4029626c736209d844ea064426ee593b3e4ceaf2254f289e5ebf673"), looks := true }, kinds := [], alts := [], laidByText := true, laidKinds := [.data, .data, .data, .data, .data, .pinned], laidTests := true, laidLooks := .later }
def ParamWritesUptoCardSaid : Prop := Claim7.holds Tryz.pinned (.plain (OpenSpec.upto paramWritesSpec)) paramWritesUptoCard

/-- THE SECOND FORM's CARD OF 'muslinlaw07.ParamBack'. -/
def paramBackUptoCard : Claim7 := { stood := { row := paramBackUptoRow, standIns := [], harness := (true, "69b21191d4029626c736209d844ea064426ee593b3e4ceaf2254f289e5ebf673"), looks := true }, kinds := [], alts := [], laidByText := true, laidKinds := [.data, .data, .data, .data, .data, .pinned], laidTests := true, laidLooks := .later }
def ParamBackUptoCardSaid : Prop := Claim7.holds Tryz.pinned (.plain (OpenSpec.upto paramBackSpec)) paramBackUptoCard

/-- THE SECOND FORM's CARD OF 'muslinlaw07.ParamOnce'. -/
def paramOnceUptoCard : Claim7 := { stood := { row := paramOnceUptoRow, standIns := [], harness := (true, "69b21191d4029626c736209d844ea064426ee593b3e4ceaf2254f289e5ebf673"), looks := true }, kinds := [], alts := [], laidByText := true, laidKinds := [.data, .data, .data, .data, .data, .pinned], laidTests := true, laidLooks := .later }
def ParamOnceUptoCardSaid : Prop := Claim7.holds Tryz.pinned (.plain (OpenSpec.upto paramOnceSpec)) paramOnceUptoCard

/-- THE SECOND FORM's CARD OF 'muslinlaw07.ParamMain'. -/
def paramMainUptoCard : Claim7 := { stood := { row := paramMainUptoRow, standIns := [], harness := (true, "69b21191d4029626c736209d844ea064426ee593b3e4ceaf2254f289e5ebf673"), looks := true }, kinds := [], alts := [], laidByText := true, laidKinds := [.data, .data, .data, .data, .data, .pinned], laidTests := true, laidLooks := .later }
def ParamMainUptoCardSaid : Prop := Claim7.holds Tryz.pinned (.plain (OpenSpec.upto paramMainSpec)) paramMainUptoCard

/-- THE SECOND FORM's CARD OF 'muslinlaw08.AddrParses'. -/
def addrParsesUptoCard : Claim7 := { stood := { row := addrParsesUptoRow, standIns := [], harness := (true, "69b21191d4029626c736209d844ea064426ee593b3e4ceaf2254f289e5ebf673"), looks := true }, kinds := [], alts := [], laidByText := true, laidKinds := [.data, .data, .pinned], laidTests := true, laidLooks := .later }
def AddrParsesUptoCardSaid : Prop := Claim7.holds Tryz.pinned (.plain (OpenSpec.upto addrParsesSpec)) addrParsesUptoCard

/-- THE SECOND FORM's CARD OF 'muslinlaw10.PartsParses'. -/
def partsParsesUptoCard : Claim7 := { stood := { row := partsParsesUptoRow, standIns := [], harness := (true, "69b21191d4029626c736209d844ea064426ee593b3e4ceaf2254f289e5ebf673"), looks := true }, kinds := [], alts := [], laidByText := true, laidKinds := [.data, .data, .data, .data, .data, .pinned], laidTests := true, laidLooks := .later }
def PartsParsesUptoCardSaid : Prop := Claim7.holds Tryz.pinned (.plain (OpenSpec.upto partsParsesSpec)) partsParsesUptoCard

/-- THE SECOND FORM's CARD OF 'muslinlaw10.PartsCuts'. -/
def partsCutsUptoCard : Claim7 := { stood := { row := partsCutsUptoRow, standIns := [], harness := (true, "69b21191d4029626c736209d844ea064426ee593b3e4ceaf2254f289e5ebf673"), looks := true }, kinds := [], alts := [], laidByText := true, laidKinds := [.data, .data, .data, .data, .data, .pinned], laidTests := true, laidLooks := .later }
def PartsCutsUptoCardSaid : Prop := Claim7.holds Tryz.pinned (.plain (OpenSpec.upto partsCutsSpec)) partsCutsUptoCard

/-- THE SECOND FORM's CARD OF 'muslinlaw10.PartsBound'. -/
def partsBoundUptoCard : Claim7 := { stood := { row := partsBoundUptoRow, standIns := [], harness := (true, "69b21191d4029626c736209d844ea064426ee593b3e4ceaf2254f289e5ebf673"), looks := true }, kinds := [], alts := [], laidByText := true, laidKinds := [.data, .data, .data, .data, .data, .pinned], laidTests := true, laidLooks := .later }
def PartsBoundUptoCardSaid : Prop := Claim7.holds Tryz.pinned (.plain (OpenSpec.upto partsBoundSpec)) partsBoundUptoCard

/-- THE SECOND FORM's CARD OF 'muslinlaw10.PartsJoined'. -/
def partsJoinedUptoCard : Claim7 := { stood := { row := partsJoinedUptoRow, standIns := [], harness := (true, "69b21191d4029626c736209d844ea064426ee593b3e4ceaf2254f289e5ebf673"), looks := true }, kinds := [], alts := [], laidByText := true, laidKinds := [.data, .data, .data, .data, .data, .pinned], laidTests := true, laidLooks := .later }
def PartsJoinedUptoCardSaid : Prop := Claim7.holds Tryz.pinned (.plain (OpenSpec.upto partsJoinedSpec)) partsJoinedUptoCard

/-- THE SECOND FORM's CARD OF 'muslinlaw10.PartsPlain'. -/
def partsPlainUptoCard : Claim7 := { stood := { row := partsPlainUptoRow, standIns := [], harness := (true, "69b21191d4029626c736209d844ea064426ee593b3e4ceaf2254f289e5ebf673"), looks := true }, kinds := [], alts := [], laidByText := true, laidKinds := [.data, .data, .data, .data, .data, .pinned], laidTests := true, laidLooks := .later }
def PartsPlainUptoCardSaid : Prop := Claim7.holds Tryz.pinned (.plain (OpenSpec.upto partsPlainSpec)) partsPlainUptoCard

/-- THE SECOND FORM's CARD OF 'muslinlaw10.PartsMessage'. -/
def partsMessageUptoCard : Claim7 := { stood := { row := partsMessageUptoRow, standIns := [], harness := (true, "69b21191d4029626c736209d844ea064426ee593b3e4ceaf2254f289e5ebf673"), looks := true }, kinds := [], alts := [], laidByText := true, laidKinds := [.data, .data, .data, .data, .data, .pinned], laidTests := true, laidLooks := .later }
def PartsMessageUptoCardSaid : Prop := Claim7.holds Tryz.pinned (.plain (OpenSpec.upto partsMessageSpec)) partsMessageUptoCard
end Rows
end Go.Proofs.YtcmmbceacjechaaGreatDoor
