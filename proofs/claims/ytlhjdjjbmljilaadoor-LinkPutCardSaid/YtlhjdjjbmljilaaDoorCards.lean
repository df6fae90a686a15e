/-
  DERIVED. GIVEN WITH THE SEED: THE CARDS: each row of YtlhjdjjbmljilaaDoorRows.lean that lists a variable, with what it lists TIED to the program's text (the seventh form; the later family's looks); each row that meets fmt, with fmt's text TOLD by the authors' own Lean function (tested against real Go, not proved from fmt's source: count such statements apart). THE CARD IS WHAT COUNTS. Prove the row's statement (the work); the ties are given (YtlhjdjjbmljilaaDoorTie.lean); close each card by the builder's one call (the guide's Derived/Test/ToyasCard.lean, 'card_holds'). Laid BY PROGRAM, IN A SANDBOX (cutbox-door.mjs). By AI agents, Wed Nov 11 2026. No macro, syntax, notation, axiom, sorry.
-/
import Derived.Test.YtlhjdjjbmljilaaDoorRows
import GoSem.ClaimSeven
namespace Go.Proofs.YtlhjdjjbmljilaaDoor
namespace Rows

/-- THE TIED CARD OF 'muslinlaw16.LinkClean'. -/
def linkCleanCard : Claim7 := { stood := { row := linkCleanRow, standIns := [], harness := (true, "5405fb245a28a19a7da7eddb41c91ee4337e83a1904f32ba60e9a0bcc0587e7e"), looks := true }, kinds := [], alts := [], laidByText := true, laidKinds := [.data, .pinned], laidTests := true, laidLooks := .later }
def LinkCleanCardSaid : Prop := Claim7.holds Tryd.pinned (.plain (OpenSpec.ofChange linkCleanSpec)) linkCleanCard

/-- THE TIED CARD OF 'muslinlaw16.LinkPut'. -/
def linkPutCard : Claim7 := { stood := { row := linkPutRow, standIns := [], harness := (true, "5405fb245a28a19a7da7eddb41c91ee4337e83a1904f32ba60e9a0bcc0587e7e"), looks := true }, kinds := [], alts := [], laidByText := true, laidKinds := [.data, .pinned], laidTests := true, laidLooks := .later }
def LinkPutCardSaid : Prop := Claim7.holds Tryd.pinned (.plain (OpenSpec.ofChange linkPutSpec)) linkPutCard

/-- THE TIED CARD OF 'muslinlaw16.LinkWeb'. -/
def linkWebCard : Claim7 := { stood := { row := linkWebRow, standIns := [], harness := (true, "5405fb245a28a19a7da7eddb41c91ee4337e83a1904f32ba60e9a0bcc0587e7e"), looks := true }, kinds := [], alts := [], laidByText := true, laidKinds := [.data, .pinned], laidTests := true, laidLooks := .later }
def LinkWebCardSaid : Prop := Claim7.holds Tryd.pinned (.plain (OpenSpec.ofChange linkWebSpec)) linkWebCard

/-- THE TIED CARD OF 'muslinlaw16.LinkCase'. -/
def linkCaseCard : Claim7 := { stood := { row := linkCaseRow, standIns := [], harness := (true, "5405fb245a28a19a7da7eddb41c91ee4337e83a1904f32ba60e9a0bcc0587e7e"), looks := true }, kinds := [], alts := [], laidByText := true, laidKinds := [.data, .pinned], laidTests := true, laidLooks := .later }
def LinkCaseCardSaid : Prop := Claim7.holds Tryd.pinned (.plain (OpenSpec.ofChange linkCaseSpec)) linkCaseCard

/-- THE TIED CARD OF 'muslinlaw17.CssCuts'. -/
def cssCutsCard : Claim7 := { stood := { row := cssCutsRow, standIns := [], harness := (true, "5405fb245a28a19a7da7eddb41c91ee4337e83a1904f32ba60e9a0bcc0587e7e"), looks := true }, kinds := [], alts := [], laidByText := true, laidKinds := [.data, .data, .pinned], laidTests := true, laidLooks := .later }
def CssCutsCardSaid : Prop := Claim7.holds Tryd.pinned (.plain (OpenSpec.ofChange cssCutsSpec)) cssCutsCard

/-- THE TIED CARD OF 'muslinlaw17.CssSafe'. -/
def cssSafeCard : Claim7 := { stood := { row := cssSafeRow, standIns := [], harness := (true, "5405fb245a28a19a7da7eddb41c91ee4337e83a1904f32ba60e9a0bcc0587e7e"), looks := true }, kinds := [], alts := [], laidByText := true, laidKinds := [.data, .data, .pinned], laidTests := true, laidLooks := .later }
def CssSafeCardSaid : Prop := Claim7.holds Tryd.pinned (.plain (OpenSpec.ofChange cssSafeSpec)) cssSafeCard

/-- THE TIED CARD OF 'muslinlaw17.CssStays'. -/
def cssStaysCard : Claim7 := { stood := { row := cssStaysRow, standIns := [], harness := (true, "5405fb245a28a19a7da7eddb41c91ee4337e83a1904f32ba60e9a0bcc0587e7e"), looks := true }, kinds := [], alts := [], laidByText := true, laidKinds := [.data, .data, .pinned], laidTests := true, laidLooks := .later }
def CssStaysCardSaid : Prop := Claim7.holds Tryd.pinned (.plain (OpenSpec.ofChange cssStaysSpec)) cssStaysCard

/-- THE TIED CARD OF 'muslinlaw17.CssOnce'. -/
def cssOnceCard : Claim7 := { stood := { row := cssOnceRow, standIns := [], harness := (true, "5405fb245a28a19a7da7eddb41c91ee4337e83a1904f32ba60e9a0bcc0587e7e"), looks := true }, kinds := [], alts := [], laidByText := true, laidKinds := [.data, .data, .pinned], laidTests := true, laidLooks := .later }
def CssOnceCardSaid : Prop := Claim7.holds Tryd.pinned (.plain (OpenSpec.ofChange cssOnceSpec)) cssOnceCard

/-- THE TIED CARD OF 'muslinlaw17.CssJoined'. -/
def cssJoinedCard : Claim7 := { stood := { row := cssJoinedRow, standIns := [], harness := (true, "5405fb245a28a19a7da7eddb41c91ee4337e83a1904f32ba60e9a0bcc0587e7e"), looks := true }, kinds := [], alts := [], laidByText := true, laidKinds := [.data, .data, .pinned], laidTests := true, laidLooks := .later }
def CssJoinedCardSaid : Prop := Claim7.holds Tryd.pinned (.plain (OpenSpec.ofChange cssJoinedSpec)) cssJoinedCard

/-- THE TIED CARD OF 'muslinlaw17.CssOne'. -/
def cssOneCard : Claim7 := { stood := { row := cssOneRow, standIns := [], harness := (true, "5405fb245a28a19a7da7eddb41c91ee4337e83a1904f32ba60e9a0bcc0587e7e"), looks := true }, kinds := [], alts := [], laidByText := true, laidKinds := [.data, .data, .pinned], laidTests := true, laidLooks := .later }
def CssOneCardSaid : Prop := Claim7.holds Tryd.pinned (.plain (OpenSpec.ofChange cssOneSpec)) cssOneCard

/-- THE SECOND FORM's CARD OF 'muslinlaw16.LinkClean'. -/
def linkCleanUptoCard : Claim7 := { stood := { row := linkCleanUptoRow, standIns := [], harness := (true, "5405fb245a28a19a7da7eddb41c91ee4337e83a1904f32ba60e9a0bcc0587e7e"), looks := true }, kinds := [], alts := [], laidByText := true, laidKinds := [.data, .pinned], laidTests := true, laidLooks := .later }
def LinkCleanUptoCardSaid : Prop := Claim7.holds Tryd.pinned (.plain (OpenSpec.upto linkCleanSpec)) linkCleanUptoCard

/-- THE SECOND FORM's CARD OF 'muslinlaw16.LinkPut'. -/
def linkPutUptoCard : Claim7 := { stood := { row := linkPutUptoRow, standIns := [], harness := (true, "5405fb245a28a19a7da7eddb41c91ee4337e83a1904f32ba60e9a0bcc0587e7e"), looks := true }, kinds := [], alts := [], laidByText := true, laidKinds := [.data, .pinned], laidTests := true, laidLooks := .later }
def LinkPutUptoCardSaid : Prop := Claim7.holds Tryd.pinned (.plain (OpenSpec.upto linkPutSpec)) linkPutUptoCard

/-- THE SECOND FORM's CARD OF 'muslinlaw16.LinkWeb'. -/
def linkWebUptoCard : Claim7 := { stood := { row := linkWebUptoRow, standIns := [], harness := (true, "5405fb245a28a19a7da7eddb41c91ee4337e83a1904f32ba60e9a0bcc0587e7e"), looks := true }, kinds := [], alts := [], laidByText := true, laidKinds := [.data, .pinned], laidTests := true, laidLooks := .later }
def LinkWebUptoCardSaid : Prop := Claim7.holds Tryd.pinned (.plain (OpenSpec.upto linkWebSpec)) linkWebUptoCard

/-- THE SECOND FORM's CARD OF 'muslinlaw16.LinkCase'. -/
def linkCaseUptoCard : Claim7 := { stood := { row := linkCaseUptoRow, standIns := [], harness := (true, "5405fb245a28a19a7da7eddb41c91ee4337e83a1904f32ba60e9a0bcc0587e7e"), looks := true }, kinds := [], alts := [], laidByText := true, laidKinds := [.data, .pinned], laidTests := true, laidLooks := .later }
def LinkCaseUptoCardSaid : Prop := Claim7.holds Tryd.pinned (.plain (OpenSpec.upto linkCaseSpec)) linkCaseUptoCard

/-- THE SECOND FORM's CARD OF 'muslinlaw17.CssCuts'. -/
def cssCutsUptoCard : Claim7 := { stood := { row := cssCutsUptoRow, standIns := [], harness := (true, "5405fb245a28a19a7da7eddb41c91ee4337e83a1904f32ba60e9a0bcc0587e7e"), looks := true }, kinds := [], alts := [], laidByText := true, laidKinds := [.data, .data, .pinned], laidTests := true, laidLooks := .later }
def CssCutsUptoCardSaid : Prop := Claim7.holds Tryd.pinned (.plain (OpenSpec.upto cssCutsSpec)) cssCutsUptoCard

/-- THE SECOND FORM's CARD OF 'muslinlaw17.CssSafe'. -/
def cssSafeUptoCard : Claim7 := { stood := { row := cssSafeUptoRow, standIns := [], harness := (true, "5405fb245a28a19a7da7eddb41c91ee4337e83a1904f32ba60e9a0bcc0587e7e"), looks := true }, kinds := [], alts := [], laidByText := true, laidKinds := [.data, .data, .pinned], laidTests := true, laidLooks := .later }
def CssSafeUptoCardSaid : Prop := Claim7.holds Tryd.pinned (.plain (OpenSpec.upto cssSafeSpec)) cssSafeUptoCard

/-- THE SECOND FORM's CARD OF 'muslinlaw17.CssStays'. -/
def cssStaysUptoCard : Claim7 := { stood := { row := cssStaysUptoRow, standIns := [], harness := (true, "5405fb245a28a19a7da7eddb41c91ee4337e83a1904f32ba60e9a0bcc0587e7e"), looks := true }, kinds := [], alts := [], laidByText := true, laidKinds := [.data, .data, .pinned], laidTests := true, laidLooks := .later }
def CssStaysUptoCardSaid : Prop := Claim7.holds Tryd.pinned (.plain (OpenSpec.upto cssStaysSpec)) cssStaysUptoCard

/-- THE SECOND FORM's CARD OF 'muslinlaw17.CssOnce'. -/
def cssOnceUptoCard : Claim7 := { stood := { row := cssOnceUptoRow, standIns := [], harness := (true, "5405fb245a28a19a7da7eddb41c91ee4337e83a1904f32ba60e9a0bcc0587e7e"), looks := true }, kinds := [], alts := [], laidByText := true, laidKinds := [.data, .data, .pinned], laidTests := true, laidLooks := .later }
def CssOnceUptoCardSaid : Prop := Claim7.holds Tryd.pinned (.plain (OpenSpec.upto cssOnceSpec)) cssOnceUptoCard

/-- THE SECOND FORM's CARD OF 'muslinlaw17.CssJoined'. -/
def cssJoinedUptoCard : Claim7 := { stood := { row := cssJoinedUptoRow, standIns := [], harness := (true, "5405fb245a28a19a7da7eddb41c91ee4337e83a1904f32ba60e9a0bcc0587e7e"), looks := true }, kinds := [], alts := [], laidByText := true, laidKinds := [.data, .data, .pinned], laidTests := true, laidLooks := .later }
def CssJoinedUptoCardSaid : Prop := Claim7.holds Tryd.pinned (.plain (OpenSpec.upto cssJoinedSpec)) cssJoinedUptoCard

/-- THE SECOND FORM's CARD OF 'muslinlaw17.CssOne'. -/
def cssOneUptoCard : Claim7 := { stood := { row := cssOneUptoRow, standIns := [], harness := (true, "5405fb245a28a19a7da7eddb41c91ee4337e83a1904f32ba60e9a0bcc0587e7e"), looks := true }, kinds := [], alts := [], laidByText := true, laidKinds := [.data, .data, .pinned], laidTests := true, laidLooks := .later }
def CssOneUptoCardSaid : Prop := Claim7.holds Tryd.pinned (.plain (OpenSpec.upto cssOneSpec)) cssOneUptoCard
end Rows
end Go.Proofs.YtlhjdjjbmljilaaDoor
