/-
  DERIVED. GIVEN WITH THE SEED: THE CARDS: each row of YtgkpennhpggaaaaDoorRows.lean that lists a variable, with what it lists TIED to the program's text (the seventh form; the later family's looks); each row that meets fmt, with fmt's text TOLD by the authors' own Lean function (tested against real Go, not proved from fmt's source: count such statements apart). THE CARD IS WHAT COUNTS. Prove the row's statement (the work); the ties are given (YtgkpennhpggaaaaDoorTie.lean); close each card by the builder's one call (the guide's Derived/Test/ToyasCard.lean, 'card_holds'). Laid BY PROGRAM, IN A SANDBOX (cutbox-door.mjs). By AI agents, Wed Nov 11 2026. No macro, syntax, notation, axiom, sorry.
-/
import Derived.Test.YtgkpennhpggaaaaDoorRows
import GoSem.ClaimSeven
namespace Go.Proofs.YtgkpennhpggaaaaDoor
namespace Rows

/-- THE TIED CARD OF 'muslinlaw05.WordDecodes'. -/
def wordDecodesCard : Claim7 := { stood := { row := wordDecodesRow, standIns := [], harness := (true, "7c4c1fefcc219a0ed57e1f9501d7d40950c82d8549d3b4728eec097b76ea0233"), looks := false }, kinds := [], alts := [], laidByText := true, laidKinds := [.data, .data, .pinned], laidTests := true, laidLooks := .later }
def WordDecodesCardSaid : Prop := Claim7.holds Tryd.pinned (.plain (OpenSpec.ofChange wordDecodesSpec)) wordDecodesCard

/-- THE TIED CARD OF 'muslinlaw05.WordEncodes'. -/
def wordEncodesCard : Claim7 := { stood := { row := wordEncodesRow, standIns := [], harness := (true, "7c4c1fefcc219a0ed57e1f9501d7d40950c82d8549d3b4728eec097b76ea0233"), looks := false }, kinds := [], alts := [], laidByText := true, laidKinds := [.data, .data, .pinned], laidTests := true, laidLooks := .later }
def WordEncodesCardSaid : Prop := Claim7.holds Tryd.pinned (.plain (OpenSpec.ofChange wordEncodesSpec)) wordEncodesCard

/-- THE TIED CARD OF 'muslinlaw05.WordBack'. -/
def wordBackCard : Claim7 := { stood := { row := wordBackRow, standIns := [], harness := (true, "7c4c1fefcc219a0ed57e1f9501d7d40950c82d8549d3b4728eec097b76ea0233"), looks := false }, kinds := [], alts := [], laidByText := true, laidKinds := [.data, .data, .pinned], laidTests := true, laidLooks := .later }
def WordBackCardSaid : Prop := Claim7.holds Tryd.pinned (.plain (OpenSpec.ofChange wordBackSpec)) wordBackCard

/-- THE TIED CARD OF 'muslinlaw05.WordValid'. -/
def wordValidCard : Claim7 := { stood := { row := wordValidRow, standIns := [], harness := (true, "7c4c1fefcc219a0ed57e1f9501d7d40950c82d8549d3b4728eec097b76ea0233"), looks := false }, kinds := [], alts := [], laidByText := true, laidKinds := [.data, .data, .pinned], laidTests := true, laidLooks := .later }
def WordValidCardSaid : Prop := Claim7.holds Tryd.pinned (.plain (OpenSpec.ofChange wordValidSpec)) wordValidCard

/-- THE TIED CARD OF 'muslinlaw05.WordJoined'. -/
def wordJoinedCard : Claim7 := { stood := { row := wordJoinedRow, standIns := [], harness := (true, "7c4c1fefcc219a0ed57e1f9501d7d40950c82d8549d3b4728eec097b76ea0233"), looks := false }, kinds := [], alts := [], laidByText := true, laidKinds := [.data, .data, .pinned], laidTests := true, laidLooks := .later }
def WordJoinedCardSaid : Prop := Claim7.holds Tryd.pinned (.plain (OpenSpec.ofChange wordJoinedSpec)) wordJoinedCard

/-- THE TIED CARD OF 'muslinlaw05.WordShort'. -/
def wordShortCard : Claim7 := { stood := { row := wordShortRow, standIns := [], harness := (true, "7c4c1fefcc219a0ed57e1f9501d7d40950c82d8549d3b4728eec097b76ea0233"), looks := false }, kinds := [], alts := [], laidByText := true, laidKinds := [.data, .data, .pinned], laidTests := true, laidLooks := .later }
def WordShortCardSaid : Prop := Claim7.holds Tryd.pinned (.plain (OpenSpec.ofChange wordShortSpec)) wordShortCard

/-- THE TIED CARD OF 'muslinlaw06.LinesHeads'. -/
def linesHeadsCard : Claim7 := { stood := { row := linesHeadsRow, standIns := [], harness := (true, "7c4c1fefcc219a0ed57e1f9501d7d40950c82d8549d3b4728eec097b76ea0233"), looks := false }, kinds := [], alts := [], laidByText := true, laidKinds := [.data, .pinned], laidTests := true, laidLooks := .later }
def LinesHeadsCardSaid : Prop := Claim7.holds Tryd.pinned (.plain (OpenSpec.ofChange linesHeadsSpec)) linesHeadsCard

/-- THE TIED CARD OF 'muslinlaw06.LinesWrites'. -/
def linesWritesCard : Claim7 := { stood := { row := linesWritesRow, standIns := [], harness := (true, "7c4c1fefcc219a0ed57e1f9501d7d40950c82d8549d3b4728eec097b76ea0233"), looks := false }, kinds := [], alts := [], laidByText := true, laidKinds := [.data, .pinned], laidTests := true, laidLooks := .later }
def LinesWritesCardSaid : Prop := Claim7.holds Tryd.pinned (.plain (OpenSpec.ofChange linesWritesSpec)) linesWritesCard

/-- THE TIED CARD OF 'muslinlaw06.LinesBack'. -/
def linesBackCard : Claim7 := { stood := { row := linesBackRow, standIns := [], harness := (true, "7c4c1fefcc219a0ed57e1f9501d7d40950c82d8549d3b4728eec097b76ea0233"), looks := false }, kinds := [], alts := [], laidByText := true, laidKinds := [.data, .pinned], laidTests := true, laidLooks := .later }
def LinesBackCardSaid : Prop := Claim7.holds Tryd.pinned (.plain (OpenSpec.ofChange linesBackSpec)) linesBackCard

/-- THE TIED CARD OF 'muslinlaw06.LinesAgain'. -/
def linesAgainCard : Claim7 := { stood := { row := linesAgainRow, standIns := [], harness := (true, "7c4c1fefcc219a0ed57e1f9501d7d40950c82d8549d3b4728eec097b76ea0233"), looks := false }, kinds := [], alts := [], laidByText := true, laidKinds := [.data, .pinned], laidTests := true, laidLooks := .later }
def LinesAgainCardSaid : Prop := Claim7.holds Tryd.pinned (.plain (OpenSpec.ofChange linesAgainSpec)) linesAgainCard

/-- THE TIED CARD OF 'muslinlaw06.LinesCut'. -/
def linesCutCard : Claim7 := { stood := { row := linesCutRow, standIns := [], harness := (true, "7c4c1fefcc219a0ed57e1f9501d7d40950c82d8549d3b4728eec097b76ea0233"), looks := false }, kinds := [], alts := [], laidByText := true, laidKinds := [.data, .pinned], laidTests := true, laidLooks := .later }
def LinesCutCardSaid : Prop := Claim7.holds Tryd.pinned (.plain (OpenSpec.ofChange linesCutSpec)) linesCutCard

/-- THE TIED CARD OF 'muslinlaw06.LinesGet'. -/
def linesGetCard : Claim7 := { stood := { row := linesGetRow, standIns := [], harness := (true, "7c4c1fefcc219a0ed57e1f9501d7d40950c82d8549d3b4728eec097b76ea0233"), looks := false }, kinds := [], alts := [], laidByText := true, laidKinds := [.data, .pinned], laidTests := true, laidLooks := .later }
def LinesGetCardSaid : Prop := Claim7.holds Tryd.pinned (.plain (OpenSpec.ofChange linesGetSpec)) linesGetCard

/-- THE SECOND FORM's CARD OF 'muslinlaw05.WordDecodes'. -/
def wordDecodesUptoCard : Claim7 := { stood := { row := wordDecodesUptoRow, standIns := [], harness := (true, "7c4c1fefcc219a0ed57e1f9501d7d40950c82d8549d3b4728eec097b76ea0233"), looks := false }, kinds := [], alts := [], laidByText := true, laidKinds := [.data, .data, .pinned], laidTests := true, laidLooks := .later }
def WordDecodesUptoCardSaid : Prop := Claim7.holds Tryd.pinned (.plain (OpenSpec.upto wordDecodesSpec)) wordDecodesUptoCard

/-- THE SECOND FORM's CARD OF 'muslinlaw05.WordEncodes'. -/
def wordEncodesUptoCard : Claim7 := { stood := { row := wordEncodesUptoRow, standIns := [], harness := (true, "7c4c1fefcc219a0ed57e1f9501d7d40950c82d8549d3b4728eec097b76ea0233"), looks := false }, kinds := [], alts := [], laidByText := true, laidKinds := [.data, .data, .pinned], laidTests := true, laidLooks := .later }
def WordEncodesUptoCardSaid : Prop := Claim7.holds Tryd.pinned (.plain (OpenSpec.upto wordEncodesSpec)) wordEncodesUptoCard

/-- THE SECOND FORM's CARD OF 'muslinlaw05.WordBack'. -/
def wordBackUptoCard : Claim7 := { stood := { row := wordBackUptoRow, standIns := [], harness := (true, "7c4c1fefcc219a0ed57e1f9501d7d40950c82d8549d3b4728eec097b76ea0233"), looks := false }, kinds := [], alts := [], laidByText := true, laidKinds := [.data, .data, .pinned], laidTests := true, laidLooks := .later }
def WordBackUptoCardSaid : Prop := Claim7.holds Tryd.pinned (.plain (OpenSpec.upto wordBackSpec)) wordBackUptoCard

/-- THE SECOND FORM's CARD OF 'muslinlaw05.WordValid'. -/
def wordValidUptoCard : Claim7 := { stood := { row := wordValidUptoRow, standIns := [], harness := (true, "7c4c1fefcc219a0ed57e1f9501d7d40950c82d8549d3b4728eec097b76ea0233"), looks := false }, kinds := [], alts := [], laidByText := true, laidKinds := [.data, .data, .pinned], laidTests := true, laidLooks := .later }
def WordValidUptoCardSaid : Prop := Claim7.holds Tryd.pinned (.plain (OpenSpec.upto wordValidSpec)) wordValidUptoCard

/-- THE SECOND FORM's CARD OF 'muslinlaw05.WordJoined'. -/
def wordJoinedUptoCard : Claim7 := { stood := { row := wordJoinedUptoRow, standIns := [], harness := (true, "7c4c1fefcc219a0ed57e1f9501d7d40950c82d8549d3b4728eec097b76ea0233"), looks := false }, kinds := [], alts := [], laidByText := true, laidKinds := [.data, .data, .pinned], laidTests := true, laidLooks := .later }
def WordJoinedUptoCardSaid : Prop := Claim7.holds Tryd.pinned (.plain (OpenSpec.upto wordJoinedSpec)) wordJoinedUptoCard

/-- THE SECOND FORM's CARD OF 'muslinlaw05.WordShort'. -/
def wordShortUptoCard : Claim7 := { stood := { row := wordShortUptoRow, standIns := [], harness := (true, "7c4c1fefcc219a0ed57e1f9501d7d40950c82d8549d3b4728eec097b76ea0233"), looks := false }, kinds := [], alts := [], laidByText := true, laidKinds := [.data, .data, .pinned], laidTests := true, laidLooks := .later }
def WordShortUptoCardSaid : Prop := Claim7.holds Tryd.pinned (.plain (OpenSpec.upto wordShortSpec)) wordShortUptoCard

/-- THE SECOND FORM's CARD OF 'muslinlaw06.LinesHeads'. -/
def linesHeadsUptoCard : Claim7 := { stood := { row := linesHeadsUptoRow, standIns := [], harness := (true, "7c4c1fefcc219a0ed57e1f9501d7d40950c82d8549d3b4728eec097b76ea0233"), looks := false }, kinds := [], alts := [], laidByText := true, laidKinds := [.data, .pinned], laidTests := true, laidLooks := .later }
def LinesHeadsUptoCardSaid : Prop := Claim7.holds Tryd.pinned (.plain (OpenSpec.upto linesHeadsSpec)) linesHeadsUptoCard

/-- THE SECOND FORM's CARD OF 'muslinlaw06.LinesWrites'. -/
def linesWritesUptoCard : Claim7 := { stood := { row := linesWritesUptoRow, standIns := [], harness := (true, "7c4c1fefcc219a0ed57e1f9501d7d40950c82d8549d3b4728eec097b76ea0233"), looks := false }, kinds := [], alts := [], laidByText := true, laidKinds := [.data, .pinned], laidTests := true, laidLooks := .later }
def LinesWritesUptoCardSaid : Prop := Claim7.holds Tryd.pinned (.plain (OpenSpec.upto linesWritesSpec)) linesWritesUptoCard

/-- THE SECOND FORM's CARD OF 'muslinlaw06.LinesBack'. -/
def linesBackUptoCard : Claim7 := { stood := { row := linesBackUptoRow, standIns := [], harness := (true, "7c4c1fefcc219a0ed57e1f9501d7d40950c82d8549d3b4728eec097b76ea0233"), looks := false }, kinds := [], alts := [], laidByText := true, laidKinds := [.data, .pinned], laidTests := true, laidLooks := .later }
def LinesBackUptoCardSaid : Prop := Claim7.holds Tryd.pinned (.plain (OpenSpec.upto linesBackSpec)) linesBackUptoCard

/-- THE SECOND FORM's CARD OF 'muslinlaw06.LinesAgain'. -/
def linesAgainUptoCard : Claim7 := { stood := { row := linesAgainUptoRow, standIns := [], harness := (true, "7c4c1fefcc219a0ed57e1f9501d7d40950c82d8549d3b4728eec097b76ea0233"), looks := false }, kinds := [], alts := [], laidByText := true, laidKinds := [.data, .pinned], laidTests := true, laidLooks := .later }
def LinesAgainUptoCardSaid : Prop := Claim7.holds Tryd.pinned (.plain (OpenSpec.upto linesAgainSpec)) linesAgainUptoCard

/-- THE SECOND FORM's CARD OF 'muslinlaw06.LinesCut'. -/
def linesCutUptoCard : Claim7 := { stood := { row := linesCutUptoRow, standIns := [], harness := (true, "7c4c1fefcc219a0ed57e1f9501d7d40950c82d8549d3b4728eec097b76ea0233"), looks := false }, kinds := [], alts := [], laidByText := true, laidKinds := [.data, .pinned], laidTests := true, laidLooks := .later }
def LinesCutUptoCardSaid : Prop := Claim7.holds Tryd.pinned (.plain (OpenSpec.upto linesCutSpec)) linesCutUptoCard

/-- THE SECOND FORM's CARD OF 'muslinlaw06.LinesGet'. -/
def linesGetUptoCard : Claim7 := { stood := { row := linesGetUptoRow, standIns := [], harness := (true, "7c4c1fefcc219a0ed57e1f9501d7d40950c82d8549d3b4728eec097b76ea0233"), looks := false }, kinds := [], alts := [], laidByText := true, laidKinds := [.data, .pinned], laidTests := true, laidLooks := .later }
def LinesGetUptoCardSaid : Prop := Claim7.holds Tryd.pinned (.plain (OpenSpec.upto linesGetSpec)) linesGetUptoCard
end Rows
end Go.Proofs.YtgkpennhpggaaaaDoor
