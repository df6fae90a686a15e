/-
  DERIVED. GIVEN WITH THE SEED: THE CARDS: each row of YtnckbdkofbhilaaGreatDoorRows.lean that lists a variable, with what it lists TIED to the program's text (the seventh form; the later family's looks); each row that meets fmt, with fmt's text TOLD by the authors' own Lean function (tested against real Go, not proved from fmt's source: count such statements apart). THE CARD IS WHAT COUNTS. Prove the row's statement (the work); the ties are given (YtnckbdkofbhilaaGreatDoorTie.lean); close each card by the builder's one call (the guide's Derived/Test/ToyasCard.lean, 'card_holds'). Laid BY PROGRAM, IN A SANDBOX (cutbox-door.mjs). By AI agents, Wed Nov 11 2026. No macro, syntax, notation, axiom, sorry.
-/
import Derived.Test.YtnckbdkofbhilaaGreatDoorRows
import GoSem.ClaimSeven
namespace Go.Proofs.YtnckbdkofbhilaaGreatDoor
namespace Rows

/-- THE TIED CARD OF 'muslinlaw08.AddrParses'. -/
def addrParsesCard : Claim7 := { stood := { row := addrParsesRow, standIns := [], harness := (true, "62fa63c63dd7b4d0c384c24cad713e108ae6f6b9d3ff1192ebfe6e972fdca76d"), looks := true }, kinds := [], alts := [], laidByText := true, laidKinds := [.data, .data, .pinned], laidTests := true, laidLooks := .later }
def AddrParsesCardSaid : Prop := Claim7.holds Tryz.pinned (.plain (OpenSpec.ofChange addrParsesSpec)) addrParsesCard

/-- THE TIED CARD OF 'muslinlaw08.AddrWrites'. -/
def addrWritesCard : Claim7 := { stood := { row := addrWritesRow, standIns := [], harness := (true, "62fa63c63dd7b4d0c384c24cad713e108ae6f6b9d3ff1192ebfe6e972fdca76d"), looks := true }, kinds := [], alts := [], laidByText := true, laidKinds := [.data, .data, .pinned], laidTests := true, laidLooks := .later }
def AddrWritesCardSaid : Prop := Claim7.holds Tryz.pinned (.plain (OpenSpec.ofChange addrWritesSpec)) addrWritesCard

/-- THE TIED CARD OF 'muslinlaw08.AddrBack'. -/
def addrBackCard : Claim7 := { stood := { row := addrBackRow, standIns := [], harness := (true, "62fa63c63dd7b4d0c384c24cad713e108ae6f6b9d3ff1192ebfe6e972fdca76d"), looks := true }, kinds := [], alts := [], laidByText := true, laidKinds := [.data, .data, .pinned], laidTests := true, laidLooks := .later }
def AddrBackCardSaid : Prop := Claim7.holds Tryz.pinned (.plain (OpenSpec.ofChange addrBackSpec)) addrBackCard

/-- THE TIED CARD OF 'muslinlaw08.AddrGood'. -/
def addrGoodCard : Claim7 := { stood := { row := addrGoodRow, standIns := [], harness := (true, "62fa63c63dd7b4d0c384c24cad713e108ae6f6b9d3ff1192ebfe6e972fdca76d"), looks := true }, kinds := [], alts := [], laidByText := true, laidKinds := [.data, .data, .pinned], laidTests := true, laidLooks := .later }
def AddrGoodCardSaid : Prop := Claim7.holds Tryz.pinned (.plain (OpenSpec.ofChange addrGoodSpec)) addrGoodCard

/-- THE TIED CARD OF 'muslinlaw08.AddrJoined'. -/
def addrJoinedCard : Claim7 := { stood := { row := addrJoinedRow, standIns := [], harness := (true, "62fa63c63dd7b4d0c384c24cad713e108ae6f6b9d3ff1192ebfe6e972fdca76d"), looks := true }, kinds := [], alts := [], laidByText := true, laidKinds := [.data, .data, .pinned], laidTests := true, laidLooks := .later }
def AddrJoinedCardSaid : Prop := Claim7.holds Tryz.pinned (.plain (OpenSpec.ofChange addrJoinedSpec)) addrJoinedCard

/-- THE TIED CARD OF 'muslinlaw12.EntDecodes'. -/
def entDecodesCard : Claim7 := { stood := { row := entDecodesRow, standIns := [], harness := (true, "62fa63c63dd7b4d0c384c24cad713e108ae6f6b9d3ff1192ebfe6e972fdca76d"), looks := true }, kinds := [], alts := [], laidByText := true, laidKinds := [.data, .data, .data, .data, .sentinel, .sentinel, .data, .pinned], laidTests := true, laidLooks := .later }
def EntDecodesCardSaid : Prop := Claim7.holds Tryz.pinned (.plain (OpenSpec.ofChange entDecodesSpec)) entDecodesCard

/-- THE TIED CARD OF 'muslinlaw12.EntWrites'. -/
def entWritesCard : Claim7 := { stood := { row := entWritesRow, standIns := [], harness := (true, "62fa63c63dd7b4d0c384c24cad713e108ae6f6b9d3ff1192ebfe6e972fdca76d"), looks := true }, kinds := [], alts := [], laidByText := true, laidKinds := [.data, .data, .data, .data, .sentinel, .sentinel, .data, .pinned], laidTests := true, laidLooks := .later }
def EntWritesCardSaid : Prop := Claim7.holds Tryz.pinned (.plain (OpenSpec.ofChange entWritesSpec)) entWritesCard

/-- THE TIED CARD OF 'muslinlaw12.EntBack'. -/
def entBackCard : Claim7 := { stood := { row := entBackRow, standIns := [], harness := (true, "62fa63c63dd7b4d0c384c24cad713e108ae6f6b9d3ff1192ebfe6e972fdca76d"), looks := true }, kinds := [], alts := [], laidByText := true, laidKinds := [.data, .data, .data, .data, .sentinel, .sentinel, .data, .pinned], laidTests := true, laidLooks := .later }
def EntBackCardSaid : Prop := Claim7.holds Tryz.pinned (.plain (OpenSpec.ofChange entBackSpec)) entBackCard

/-- THE TIED CARD OF 'muslinlaw12.EntSafe'. -/
def entSafeCard : Claim7 := { stood := { row := entSafeRow, standIns := [], harness := (true, "62fa63c63dd7b4d0c384c24cad713e108ae6f6b9d3ff1192ebfe6e972fdca76d"), looks := true }, kinds := [], alts := [], laidByText := true, laidKinds := [.data, .data, .data, .data, .sentinel, .sentinel, .data, .pinned], laidTests := true, laidLooks := .later }
def EntSafeCardSaid : Prop := Claim7.holds Tryz.pinned (.plain (OpenSpec.ofChange entSafeSpec)) entSafeCard

/-- THE TIED CARD OF 'muslinlaw12.EntPlain'. -/
def entPlainCard : Claim7 := { stood := { row := entPlainRow, standIns := [], harness := (true, "62fa63c63dd7b4d0c384c24cad713e108ae6f6b9d3ff1192ebfe6e972fdca76d"), looks := true }, kinds := [], alts := [], laidByText := true, laidKinds := [.data, .data, .data, .data, .sentinel, .sentinel, .data, .pinned], laidTests := true, laidLooks := .later }
def EntPlainCardSaid : Prop := Claim7.holds Tryz.pinned (.plain (OpenSpec.ofChange entPlainSpec)) entPlainCard

/-- THE TIED CARD OF 'muslinlaw12.EntApart'. -/
def entApartCard : Claim7 := { stood := { row := entApartRow, standIns := [], harness := (true, "62fa63c63dd7b4d0c384c24cad713e108ae6f6b9d3ff1192ebfe6e972fdca76d"), looks := true }, kinds := [], alts := [], laidByText := true, laidKinds := [.data, .data, .data, .data, .sentinel, .sentinel, .data, .pinned], laidTests := true, laidLooks := .later }
def EntApartCardSaid : Prop := Claim7.holds Tryz.pinned (.plain (OpenSpec.ofChange entApartSpec)) entApartCard

/-- THE TIED CARD OF 'muslinlaw12.EntJoined'. -/
def entJoinedCard : Claim7 := { stood := { row := entJoinedRow, standIns := [], harness := (true, "62fa63c63dd7b4d0c384c24cad713e108ae6f6b9d3ff1192ebfe6e972fdca76d"), looks := true }, kinds := [], alts := [], laidByText := true, laidKinds := [.data, .data, .data, .data, .sentinel, .sentinel, .data, .pinned], laidTests := true, laidLooks := .later }
def EntJoinedCardSaid : Prop := Claim7.holds Tryz.pinned (.plain (OpenSpec.ofChange entJoinedSpec)) entJoinedCard

/-- THE SECOND FORM's CARD OF 'muslinlaw08.AddrParses'. -/
def addrParsesUptoCard : Claim7 := { stood := { row := addrParsesUptoRow, standIns := [], harness := (true, "62fa63c63dd7b4d0c384c24cad713e108ae6f6b9d3ff1192ebfe6e972fdca76d"), looks := true }, kinds := [], alts := [], laidByText := true, laidKinds := [.data, .data, .pinned], laidTests := true, laidLooks := .later }
def AddrParsesUptoCardSaid : Prop := Claim7.holds Tryz.pinned (.plain (OpenSpec.upto addrParsesSpec)) addrParsesUptoCard

/-- THE SECOND FORM's CARD OF 'muslinlaw08.AddrWrites'. -/
def addrWritesUptoCard : Claim7 := { stood := { row := addrWritesUptoRow, standIns := [], harness := (true, "62fa63c63dd7b4d0c384c24cad713e108ae6f6b9d3ff1192ebfe6e972fdca76d"), looks := true }, kinds := [], alts := [], laidByText := true, laidKinds := [.data, .data, .pinned], laidTests := true, laidLooks := .later }
def AddrWritesUptoCardSaid : Prop := Claim7.holds Tryz.pinned (.plain (OpenSpec.upto addrWritesSpec)) addrWritesUptoCard

/-- THE SECOND FORM's CARD OF 'muslinlaw08.AddrBack'. -/
def addrBackUptoCard : Claim7 := { stood := { row := addrBackUptoRow, standIns := [], harness := (true, "62fa63c63dd7b4d0c384c24cad713e108ae6f6b9d3ff1192ebfe6e972fdca76d"), looks := true }, kinds := [], alts := [], laidByText := true, laidKinds := [.data, .data, .pinned], laidTests := true, laidLooks := .later }
def AddrBackUptoCardSaid : Prop := Claim7.holds Tryz.pinned (.plain (OpenSpec.upto addrBackSpec)) addrBackUptoCard

/-- THE SECOND FORM's CARD OF 'muslinlaw08.AddrGood'. -/
def addrGoodUptoCard : Claim7 := { stood := { row := addrGoodUptoRow, standIns := [], harness := (true, "62fa63c63dd7b4d0c384c24cad713e108ae6f6b9d3ff1192ebfe6e972fdca76d"), looks := true }, kinds := [], alts := [], laidByText := true, laidKinds := [.data, .data, .pinned], laidTests := true, laidLooks := .later }
def AddrGoodUptoCardSaid : Prop := Claim7.holds Tryz.pinned (.plain (OpenSpec.upto addrGoodSpec)) addrGoodUptoCard

/-- THE SECOND FORM's CARD OF 'muslinlaw08.AddrJoined'. -/
def addrJoinedUptoCard : Claim7 := { stood := { row := addrJoinedUptoRow, standIns := [], harness := (true, "62fa63c63dd7b4d0c384c24cad713e108ae6f6b9d3ff1192ebfe6e972fdca76d"), looks := true }, kinds := [], alts := [], laidByText := true, laidKinds := [.data, .data, .pinned], laidTests := true, laidLooks := .later }
def AddrJoinedUptoCardSaid : Prop := Claim7.holds Tryz.pinned (.plain (OpenSpec.upto addrJoinedSpec)) addrJoinedUptoCard

/-- THE SECOND FORM's CARD OF 'muslinlaw12.EntDecodes'. -/
def entDecodesUptoCard : Claim7 := { stood := { row := entDecodesUptoRow, standIns := [], harness := (true, "62fa63c63dd7b4d0c384c24cad713e108ae6f6b9d3ff1192ebfe6e972fdca76d"), looks := true }, kinds := [], alts := [], laidByText := true, laidKinds := [.data, .data, .data, .data, .sentinel, .sentinel, .data, .pinned], laidTests := true, laidLooks := .later }
def EntDecodesUptoCardSaid : Prop := Claim7.holds Tryz.pinned (.plain (OpenSpec.upto entDecodesSpec)) entDecodesUptoCard

/-- THE SECOND FORM's CARD OF 'muslinlaw12.EntWrites'. -/
def entWritesUptoCard : Claim7 := { stood := { row := entWritesUptoRow, standIns := [], harness := (true, "62fa63c63dd7b4d0c384c24cad713e108ae6f6b9d3ff1192ebfe6e972fdca76d"), looks := true }, kinds := [], alts := [], laidByText := true, laidKinds := [.data, .data, .data, .data, .sentinel, .sentinel, .data, .pinned], laidTests := true, laidLooks := .later }
def EntWritesUptoCardSaid : Prop := Claim7.holds Tryz.pinned (.plain (OpenSpec.upto entWritesSpec)) entWritesUptoCard

/-- THE SECOND FORM's CARD OF 'muslinlaw12.EntBack'. -/
def entBackUptoCard : Claim7 := { stood := { row := entBackUptoRow, standIns := [], harness := (true, "62fa63c63dd7b4d0c384c24cad713e108ae6f6b9d3ff1192ebfe6e972fdca76d"), looks := true }, kinds := [], alts := [], laidByText := true, laidKinds := [.data, .data, .data, .data, .sentinel, .sentinel, .data, .pinned], laidTests := true, laidLooks := .later }
def EntBackUptoCardSaid : Prop := Claim7.holds Tryz.pinned (.plain (OpenSpec.upto entBackSpec)) entBackUptoCard

/-- THE SECOND FORM's CARD OF 'muslinlaw12.EntSafe'. -/
def entSafeUptoCard : Claim7 := { stood := { row := entSafeUptoRow, standIns := [], harness := (true, "62fa63c63dd7b4d0c384c24cad713e108ae6f6b9d3ff1192ebfe6e972fdca76d"), looks := true }, kinds := [], alts := [], laidByText := true, laidKinds := [.data, .data, .data, .data, .sentinel, .sentinel, .data, .pinned], laidTests := true, laidLooks := .later }
def EntSafeUptoCardSaid : Prop := Claim7.holds Tryz.pinned (.plain (OpenSpec.upto entSafeSpec)) entSafeUptoCard

/-- THE SECOND FORM's CARD OF 'muslinlaw12.EntPlain'. -/
def entPlainUptoCard : Claim7 := { stood := { row := entPlainUptoRow, standIns := [], harness := (true, "62fa63c63dd7b4d0c384c24cad713e108ae6f6b9d3ff1192ebfe6e972fdca76d"), looks := true }, kinds := [], alts := [], laidByText := true, laidKinds := [.data, .data, .data, .data, .sentinel, .sentinel, .data, .pinned], laidTests := true, laidLooks := .later }
def EntPlainUptoCardSaid : Prop := Claim7.holds Tryz.pinned (.plain (OpenSpec.upto entPlainSpec)) entPlainUptoCard

/-- THE SECOND FORM's CARD OF 'muslinlaw12.EntApart'. -/
def entApartUptoCard : Claim7 := { stood := { row := entApartUptoRow, standIns := [], harness := (true, "62fa63c63dd7b4d0c384c24cad713e108ae6f6b9d3ff1192ebfe6e972fdca76d"), looks := true }, kinds := [], alts := [], laidByText := true, laidKinds := [.data, .data, .data, .data, .sentinel, .sentinel, .data, .pinned], laidTests := true, laidLooks := .later }
def EntApartUptoCardSaid : Prop := Claim7.holds Tryz.pinned (.plain (OpenSpec.upto entApartSpec)) entApartUptoCard

/-- THE SECOND FORM's CARD OF 'muslinlaw12.EntJoined'. -/
def entJoinedUptoCard : Claim7 := { stood := { row := entJoinedUptoRow, standIns := [], harness := (true, "62fa63c63dd7b4d0c384c24cad713e108ae6f6b9d3ff1192ebfe6e972fdca76d"), looks := true }, kinds := [], alts := [], laidByText := true, laidKinds := [.data, .data, .data, .data, .sentinel, .sentinel, .data, .pinned], laidTests := true, laidLooks := .later }
def EntJoinedUptoCardSaid : Prop := Claim7.holds Tryz.pinned (.plain (OpenSpec.upto entJoinedSpec)) entJoinedUptoCard
end Rows
end Go.Proofs.YtnckbdkofbhilaaGreatDoor
