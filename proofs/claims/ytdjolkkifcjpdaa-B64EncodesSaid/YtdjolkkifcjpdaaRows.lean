/-
  No cell of these rows narrows 'for every input' (looked for: loops, veiled, ifaces, maps, wideKeys, modest, calm, conditions, laid).
  DERIVED. THE GIVEN ROWS OF THIS SEAT. 12 by the template 'for every input the law returns true; each argument reads behind the call as it read before'; 0 by the template 'total and deterministic' (their statements: YtdjolkkifcjpdaaTotals.lean).
  GIVEN WITH THE SEED: the statements are not yours to turn. If you find one false, say at which input.
  Laid BY PROGRAM, IN A SANDBOX (cutbox-rows.mjs): the forced cells as the released guide's own fill.sh prints them over the translation 2c3080b220a23d12… (all of the seat's roots in one cut). By AI agents, Wed Nov 11 2026. No macro, syntax, notation, axiom, sorry.
-/
import Derived.Test.YtdjolkkifcjpdaaChecked
import GoSem.Claim
import GoSem.ClaimJoined
import GoSem.ClaimMapViews
import Derived.JoinedTies
import Derived.KernelRfl
namespace Go.Proofs.Ytdjolkkifcjpdaa
/- THE CELL 'sum', in the pinned program and in every row, IS THE sha256 OF THE DUMP (.gsa) THAT YtdjolkkifcjpdaaProg.lean LOADS. Nothing in Lean hashes anything: it is a label: what it is worth is what the hold of that sum in a sandbox is worth. -/
noncomputable def Try.pinned : Pinned := { name := "ytdjolkkifcjpdaa", sum := "2c3080b220a23d1223cdad18385d6b7b412a8f03faa4e3d51c34b46481543555", checked := Try.checked }
namespace Rows
def none {H : Type} : Left H := { results := [], args := [] }

/-- 'muslinlaw01.B64Encodes': WHATEVER THE INPUT: true; the input reads as it did. -/
def b64EncodesSpec : ChangeSpec := { name := "b64Encodes", fn := fun _ => fun
  | [d1, d2] => { results := [.lit (.bool true)], args := [d1, d2] }
  | _ => none }
def b64EncodesRow : OpenClaim := { program := "ytdjolkkifcjpdaa", sum := "2c3080b220a23d1223cdad18385d6b7b412a8f03faa4e3d51c34b46481543555", func := "muslin/muslinlaw01.B64Encodes", spec := "b64Encodes", inPlace := ["internal/bytealg.IndexByteString", "internal/bytealg.IndexString", "internal/abi.NoEscape"], unfollowed := true, recurses := true, named := ["internal/bytealg.MaxLen"], apart := false }
def B64EncodesSaid : Prop := b64EncodesRow.holds Try.pinned (OpenSpec.ofChange b64EncodesSpec)

/-- ITS FALSE NEIGHBOUR: 'it returns false'. Refute it at one input. -/
def b64EncodesWrong : ChangeSpec := { name := "b64Encodes", fn := fun _ => fun
  | [d1, d2] => { results := [.lit (.bool false)], args := [d1, d2] }
  | _ => none }
def B64EncodesWrongFalsely : Prop := b64EncodesRow.holds Try.pinned (OpenSpec.ofChange b64EncodesWrong)

/-- 'muslinlaw01.B64Decodes': WHATEVER THE INPUT: true; the input reads as it did. -/
def b64DecodesSpec : ChangeSpec := { name := "b64Decodes", fn := fun _ => fun
  | [d] => { results := [.lit (.bool true)], args := [d] }
  | _ => none }
def b64DecodesRow : OpenClaim := { program := "ytdjolkkifcjpdaa", sum := "2c3080b220a23d1223cdad18385d6b7b412a8f03faa4e3d51c34b46481543555", func := "muslin/muslinlaw01.B64Decodes", spec := "b64Decodes", inPlace := ["internal/bytealg.IndexByteString", "internal/bytealg.IndexString", "internal/abi.NoEscape"], unfollowed := true, recurses := true, named := ["internal/bytealg.MaxLen"], apart := false }
def B64DecodesSaid : Prop := b64DecodesRow.holds Try.pinned (OpenSpec.ofChange b64DecodesSpec)

/-- ITS FALSE NEIGHBOUR: 'it returns false'. Refute it at one input. -/
def b64DecodesWrong : ChangeSpec := { name := "b64Decodes", fn := fun _ => fun
  | [d] => { results := [.lit (.bool false)], args := [d] }
  | _ => none }
def B64DecodesWrongFalsely : Prop := b64DecodesRow.holds Try.pinned (OpenSpec.ofChange b64DecodesWrong)

/-- 'muslinlaw01.B64Back': WHATEVER THE INPUT: true; the input reads as it did. -/
def b64BackSpec : ChangeSpec := { name := "b64Back", fn := fun _ => fun
  | [d1, d2, d3] => { results := [.lit (.bool true)], args := [d1, d2, d3] }
  | _ => none }
def b64BackRow : OpenClaim := { program := "ytdjolkkifcjpdaa", sum := "2c3080b220a23d1223cdad18385d6b7b412a8f03faa4e3d51c34b46481543555", func := "muslin/muslinlaw01.B64Back", spec := "b64Back", inPlace := ["internal/bytealg.IndexByteString", "internal/bytealg.IndexString", "internal/abi.NoEscape"], unfollowed := true, recurses := true, named := ["internal/bytealg.MaxLen"], apart := false }
def B64BackSaid : Prop := b64BackRow.holds Try.pinned (OpenSpec.ofChange b64BackSpec)

/-- ITS FALSE NEIGHBOUR: 'it returns false'. Refute it at one input. -/
def b64BackWrong : ChangeSpec := { name := "b64Back", fn := fun _ => fun
  | [d1, d2, d3] => { results := [.lit (.bool false)], args := [d1, d2, d3] }
  | _ => none }
def B64BackWrongFalsely : Prop := b64BackRow.holds Try.pinned (OpenSpec.ofChange b64BackWrong)

/-- 'muslinlaw01.B64Sizes': WHATEVER THE INPUT: true; the input reads as it did. -/
def b64SizesSpec : ChangeSpec := { name := "b64Sizes", fn := fun _ => fun
  | [d] => { results := [.lit (.bool true)], args := [d] }
  | _ => none }
def b64SizesRow : OpenClaim := { program := "ytdjolkkifcjpdaa", sum := "2c3080b220a23d1223cdad18385d6b7b412a8f03faa4e3d51c34b46481543555", func := "muslin/muslinlaw01.B64Sizes", spec := "b64Sizes", inPlace := ["internal/bytealg.IndexByteString", "internal/bytealg.IndexString", "internal/abi.NoEscape"], unfollowed := true, recurses := true, named := ["internal/bytealg.MaxLen"], apart := false }
def B64SizesSaid : Prop := b64SizesRow.holds Try.pinned (OpenSpec.ofChange b64SizesSpec)

/-- ITS FALSE NEIGHBOUR: 'it returns false'. Refute it at one input. -/
def b64SizesWrong : ChangeSpec := { name := "b64Sizes", fn := fun _ => fun
  | [d] => { results := [.lit (.bool false)], args := [d] }
  | _ => none }
def B64SizesWrongFalsely : Prop := b64SizesRow.holds Try.pinned (OpenSpec.ofChange b64SizesWrong)

/-- 'muslinlaw01.B64Joined': WHATEVER THE INPUT: true; the input reads as it did. -/
def b64JoinedSpec : ChangeSpec := { name := "b64Joined", fn := fun _ => fun
  | [d1, d2] => { results := [.lit (.bool true)], args := [d1, d2] }
  | _ => none }
def b64JoinedRow : OpenClaim := { program := "ytdjolkkifcjpdaa", sum := "2c3080b220a23d1223cdad18385d6b7b412a8f03faa4e3d51c34b46481543555", func := "muslin/muslinlaw01.B64Joined", spec := "b64Joined", inPlace := ["internal/bytealg.IndexByteString", "internal/bytealg.IndexString", "internal/abi.NoEscape"], unfollowed := true, recurses := true, named := ["internal/bytealg.MaxLen"], apart := false }
def B64JoinedSaid : Prop := b64JoinedRow.holds Try.pinned (OpenSpec.ofChange b64JoinedSpec)

/-- ITS FALSE NEIGHBOUR: 'it returns false'. Refute it at one input. -/
def b64JoinedWrong : ChangeSpec := { name := "b64Joined", fn := fun _ => fun
  | [d1, d2] => { results := [.lit (.bool false)], args := [d1, d2] }
  | _ => none }
def B64JoinedWrongFalsely : Prop := b64JoinedRow.holds Try.pinned (OpenSpec.ofChange b64JoinedWrong)

/-- 'muslinlaw01.B64Junk': WHATEVER THE INPUT: true; the input reads as it did. -/
def b64JunkSpec : ChangeSpec := { name := "b64Junk", fn := fun _ => fun
  | [d1, d2, d3] => { results := [.lit (.bool true)], args := [d1, d2, d3] }
  | _ => none }
def b64JunkRow : OpenClaim := { program := "ytdjolkkifcjpdaa", sum := "2c3080b220a23d1223cdad18385d6b7b412a8f03faa4e3d51c34b46481543555", func := "muslin/muslinlaw01.B64Junk", spec := "b64Junk", inPlace := ["internal/bytealg.IndexByteString", "internal/bytealg.IndexString", "internal/abi.NoEscape"], unfollowed := true, recurses := true, named := ["internal/bytealg.MaxLen"], apart := false }
def B64JunkSaid : Prop := b64JunkRow.holds Try.pinned (OpenSpec.ofChange b64JunkSpec)

/-- ITS FALSE NEIGHBOUR: 'it returns false'. Refute it at one input. -/
def b64JunkWrong : ChangeSpec := { name := "b64Junk", fn := fun _ => fun
  | [d1, d2, d3] => { results := [.lit (.bool false)], args := [d1, d2, d3] }
  | _ => none }
def B64JunkWrongFalsely : Prop := b64JunkRow.holds Try.pinned (OpenSpec.ofChange b64JunkWrong)

/-- 'muslinlaw02.QpDecodes': WHATEVER THE INPUT: true; the input reads as it did. -/
def qpDecodesSpec : ChangeSpec := { name := "qpDecodes", fn := fun _ => fun
  | [d] => { results := [.lit (.bool true)], args := [d] }
  | _ => none }
def qpDecodesRow : OpenClaim := { program := "ytdjolkkifcjpdaa", sum := "2c3080b220a23d1223cdad18385d6b7b412a8f03faa4e3d51c34b46481543555", func := "muslin/muslinlaw02.QpDecodes", spec := "qpDecodes", apart := false }
def QpDecodesSaid : Prop := qpDecodesRow.holds Try.pinned (OpenSpec.ofChange qpDecodesSpec)

/-- ITS FALSE NEIGHBOUR: 'it returns false'. Refute it at one input. -/
def qpDecodesWrong : ChangeSpec := { name := "qpDecodes", fn := fun _ => fun
  | [d] => { results := [.lit (.bool false)], args := [d] }
  | _ => none }
def QpDecodesWrongFalsely : Prop := qpDecodesRow.holds Try.pinned (OpenSpec.ofChange qpDecodesWrong)

/-- 'muslinlaw02.QpEncodes': WHATEVER THE INPUT: true; the input reads as it did. -/
def qpEncodesSpec : ChangeSpec := { name := "qpEncodes", fn := fun _ => fun
  | [d] => { results := [.lit (.bool true)], args := [d] }
  | _ => none }
def qpEncodesRow : OpenClaim := { program := "ytdjolkkifcjpdaa", sum := "2c3080b220a23d1223cdad18385d6b7b412a8f03faa4e3d51c34b46481543555", func := "muslin/muslinlaw02.QpEncodes", spec := "qpEncodes", apart := false }
def QpEncodesSaid : Prop := qpEncodesRow.holds Try.pinned (OpenSpec.ofChange qpEncodesSpec)

/-- ITS FALSE NEIGHBOUR: 'it returns false'. Refute it at one input. -/
def qpEncodesWrong : ChangeSpec := { name := "qpEncodes", fn := fun _ => fun
  | [d] => { results := [.lit (.bool false)], args := [d] }
  | _ => none }
def QpEncodesWrongFalsely : Prop := qpEncodesRow.holds Try.pinned (OpenSpec.ofChange qpEncodesWrong)

/-- 'muslinlaw02.QpBack': WHATEVER THE INPUT: true; the input reads as it did. -/
def qpBackSpec : ChangeSpec := { name := "qpBack", fn := fun _ => fun
  | [d] => { results := [.lit (.bool true)], args := [d] }
  | _ => none }
def qpBackRow : OpenClaim := { program := "ytdjolkkifcjpdaa", sum := "2c3080b220a23d1223cdad18385d6b7b412a8f03faa4e3d51c34b46481543555", func := "muslin/muslinlaw02.QpBack", spec := "qpBack", apart := false }
def QpBackSaid : Prop := qpBackRow.holds Try.pinned (OpenSpec.ofChange qpBackSpec)

/-- ITS FALSE NEIGHBOUR: 'it returns false'. Refute it at one input. -/
def qpBackWrong : ChangeSpec := { name := "qpBack", fn := fun _ => fun
  | [d] => { results := [.lit (.bool false)], args := [d] }
  | _ => none }
def QpBackWrongFalsely : Prop := qpBackRow.holds Try.pinned (OpenSpec.ofChange qpBackWrong)

/-- 'muslinlaw02.QpLines': WHATEVER THE INPUT: true; the input reads as it did. -/
def qpLinesSpec : ChangeSpec := { name := "qpLines", fn := fun _ => fun
  | [d] => { results := [.lit (.bool true)], args := [d] }
  | _ => none }
def qpLinesRow : OpenClaim := { program := "ytdjolkkifcjpdaa", sum := "2c3080b220a23d1223cdad18385d6b7b412a8f03faa4e3d51c34b46481543555", func := "muslin/muslinlaw02.QpLines", spec := "qpLines", apart := false }
def QpLinesSaid : Prop := qpLinesRow.holds Try.pinned (OpenSpec.ofChange qpLinesSpec)

/-- ITS FALSE NEIGHBOUR: 'it returns false'. Refute it at one input. -/
def qpLinesWrong : ChangeSpec := { name := "qpLines", fn := fun _ => fun
  | [d] => { results := [.lit (.bool false)], args := [d] }
  | _ => none }
def QpLinesWrongFalsely : Prop := qpLinesRow.holds Try.pinned (OpenSpec.ofChange qpLinesWrong)

/-- 'muslinlaw02.QpPlain': WHATEVER THE INPUT: true; the input reads as it did. -/
def qpPlainSpec : ChangeSpec := { name := "qpPlain", fn := fun _ => fun
  | [d] => { results := [.lit (.bool true)], args := [d] }
  | _ => none }
def qpPlainRow : OpenClaim := { program := "ytdjolkkifcjpdaa", sum := "2c3080b220a23d1223cdad18385d6b7b412a8f03faa4e3d51c34b46481543555", func := "muslin/muslinlaw02.QpPlain", spec := "qpPlain", apart := false }
def QpPlainSaid : Prop := qpPlainRow.holds Try.pinned (OpenSpec.ofChange qpPlainSpec)

/-- ITS FALSE NEIGHBOUR: 'it returns false'. Refute it at one input. -/
def qpPlainWrong : ChangeSpec := { name := "qpPlain", fn := fun _ => fun
  | [d] => { results := [.lit (.bool false)], args := [d] }
  | _ => none }
def QpPlainWrongFalsely : Prop := qpPlainRow.holds Try.pinned (OpenSpec.ofChange qpPlainWrong)

/-- 'muslinlaw02.QpJoined': WHATEVER THE INPUT: true; the input reads as it did. -/
def qpJoinedSpec : ChangeSpec := { name := "qpJoined", fn := fun _ => fun
  | [d] => { results := [.lit (.bool true)], args := [d] }
  | _ => none }
def qpJoinedRow : OpenClaim := { program := "ytdjolkkifcjpdaa", sum := "2c3080b220a23d1223cdad18385d6b7b412a8f03faa4e3d51c34b46481543555", func := "muslin/muslinlaw02.QpJoined", spec := "qpJoined", apart := false }
def QpJoinedSaid : Prop := qpJoinedRow.holds Try.pinned (OpenSpec.ofChange qpJoinedSpec)

/-- ITS FALSE NEIGHBOUR: 'it returns false'. Refute it at one input. -/
def qpJoinedWrong : ChangeSpec := { name := "qpJoined", fn := fun _ => fun
  | [d] => { results := [.lit (.bool false)], args := [d] }
  | _ => none }
def QpJoinedWrongFalsely : Prop := qpJoinedRow.holds Try.pinned (OpenSpec.ofChange qpJoinedWrong)

/- THE SECOND FORM. 'bulk': how many values and letters a reading holds, each counted each time it is reached (what is shared counts as often as it is met; a slice's spare places count too). A statement '..UptoSaid' is the law's where the arguments, and the package variables that the reading takes, are together of bulk at most 1048576: NARROWER than '..Said'. Prove '..Said' where nothing that the law and all that it calls make is longer than what came in: it says more and counts as full. Else prove '..UptoSaid'. A law counts once. -/
mutual
def uptoBulk {H : Type} : DataW H → Nat
  | .lit (.string bytes) => bytes.length + 1
  | .lit _ => 1
  | .nil => 1
  | .ptr d => uptoBulk d + 1
  | .slice elems spare => uptoBulkAll elems + uptoBulkAll spare + 1
  | .agg parts => uptoBulkAll parts + 1
  | .iface _ d => uptoBulk d + 1
  | .map entries => uptoBulkEntries entries + 1
  | .held _ => 1
def uptoBulkAll {H : Type} : List (DataW H) → Nat
  | [] => 0
  | d :: r => uptoBulk d + uptoBulkAll r
def uptoBulkEntries {H : Type} : List (Lit × DataW H) → Nat
  | [] => 0
  | x :: r => uptoBulkEntry x + uptoBulkEntries r
def uptoBulkEntry {H : Type} : Lit × DataW H → Nat
  | (.string bytes, d) => bytes.length + uptoBulk d + 1
  | (_, d) => uptoBulk d + 1
 end
def uptoSmall : (H : Type) → List (DataW H) → Bool := fun _ ds => decide (uptoBulkAll ds ≤ 1048576)
def OpenSpec.upto (s : _root_.Go.ChangeSpec) : _root_.Go.OpenSpec := { _root_.Go.OpenSpec.ofChange s with cond := some uptoSmall }

/-- 'muslinlaw01.B64Encodes', WHERE WHAT IT READS IS OF BULK AT MOST 1048576: true; the input reads as it did. -/
def b64EncodesUptoRow : OpenClaim := { program := "ytdjolkkifcjpdaa", sum := "2c3080b220a23d1223cdad18385d6b7b412a8f03faa4e3d51c34b46481543555", func := "muslin/muslinlaw01.B64Encodes", spec := "b64Encodes", inPlace := ["internal/bytealg.IndexByteString", "internal/bytealg.IndexString", "internal/abi.NoEscape"], unfollowed := true, recurses := true, named := ["internal/bytealg.MaxLen"], apart := false, narrowed := true }
def B64EncodesUptoSaid : Prop := b64EncodesUptoRow.holds Try.pinned (OpenSpec.upto b64EncodesSpec)

/-- 'muslinlaw01.B64Decodes', WHERE WHAT IT READS IS OF BULK AT MOST 1048576: true; the input reads as it did. -/
def b64DecodesUptoRow : OpenClaim := { program := "ytdjolkkifcjpdaa", sum := "2c3080b220a23d1223cdad18385d6b7b412a8f03faa4e3d51c34b46481543555", func := "muslin/muslinlaw01.B64Decodes", spec := "b64Decodes", inPlace := ["internal/bytealg.IndexByteString", "internal/bytealg.IndexString", "internal/abi.NoEscape"], unfollowed := true, recurses := true, named := ["internal/bytealg.MaxLen"], apart := false, narrowed := true }
def B64DecodesUptoSaid : Prop := b64DecodesUptoRow.holds Try.pinned (OpenSpec.upto b64DecodesSpec)

/-- 'muslinlaw01.B64Back', WHERE WHAT IT READS IS OF BULK AT MOST 1048576: true; the input reads as it did. -/
def b64BackUptoRow : OpenClaim := { program := "ytdjolkkifcjpdaa", sum := "2c3080b220a23d1223cdad18385d6b7b412a8f03faa4e3d51c34b46481543555", func := "muslin/muslinlaw01.B64Back", spec := "b64Back", inPlace := ["internal/bytealg.IndexByteString", "internal/bytealg.IndexString", "internal/abi.NoEscape"], unfollowed := true, recurses := true, named := ["internal/bytealg.MaxLen"], apart := false, narrowed := true }
def B64BackUptoSaid : Prop := b64BackUptoRow.holds Try.pinned (OpenSpec.upto b64BackSpec)

/-- 'muslinlaw01.B64Sizes', WHERE WHAT IT READS IS OF BULK AT MOST 1048576: true; the input reads as it did. -/
def b64SizesUptoRow : OpenClaim := { program := "ytdjolkkifcjpdaa", sum := "2c3080b220a23d1223cdad18385d6b7b412a8f03faa4e3d51c34b46481543555", func := "muslin/muslinlaw01.B64Sizes", spec := "b64Sizes", inPlace := ["internal/bytealg.IndexByteString", "internal/bytealg.IndexString", "internal/abi.NoEscape"], unfollowed := true, recurses := true, named := ["internal/bytealg.MaxLen"], apart := false, narrowed := true }
def B64SizesUptoSaid : Prop := b64SizesUptoRow.holds Try.pinned (OpenSpec.upto b64SizesSpec)

/-- 'muslinlaw01.B64Joined', WHERE WHAT IT READS IS OF BULK AT MOST 1048576: true; the input reads as it did. -/
def b64JoinedUptoRow : OpenClaim := { program := "ytdjolkkifcjpdaa", sum := "2c3080b220a23d1223cdad18385d6b7b412a8f03faa4e3d51c34b46481543555", func := "muslin/muslinlaw01.B64Joined", spec := "b64Joined", inPlace := ["internal/bytealg.IndexByteString", "internal/bytealg.IndexString", "internal/abi.NoEscape"], unfollowed := true, recurses := true, named := ["internal/bytealg.MaxLen"], apart := false, narrowed := true }
def B64JoinedUptoSaid : Prop := b64JoinedUptoRow.holds Try.pinned (OpenSpec.upto b64JoinedSpec)

/-- 'muslinlaw01.B64Junk', WHERE WHAT IT READS IS OF BULK AT MOST 1048576: true; the input reads as it did. -/
def b64JunkUptoRow : OpenClaim := { program := "ytdjolkkifcjpdaa", sum := "2c3080b220a23d1223cdad18385d6b7b412a8f03faa4e3d51c34b46481543555", func := "muslin/muslinlaw01.B64Junk", spec := "b64Junk", inPlace := ["internal/bytealg.IndexByteString", "internal/bytealg.IndexString", "internal/abi.NoEscape"], unfollowed := true, recurses := true, named := ["internal/bytealg.MaxLen"], apart := false, narrowed := true }
def B64JunkUptoSaid : Prop := b64JunkUptoRow.holds Try.pinned (OpenSpec.upto b64JunkSpec)

/-- 'muslinlaw02.QpDecodes', WHERE WHAT IT READS IS OF BULK AT MOST 1048576: true; the input reads as it did. -/
def qpDecodesUptoRow : OpenClaim := { program := "ytdjolkkifcjpdaa", sum := "2c3080b220a23d1223cdad18385d6b7b412a8f03faa4e3d51c34b46481543555", func := "muslin/muslinlaw02.QpDecodes", spec := "qpDecodes", apart := false, narrowed := true }
def QpDecodesUptoSaid : Prop := qpDecodesUptoRow.holds Try.pinned (OpenSpec.upto qpDecodesSpec)

/-- 'muslinlaw02.QpEncodes', WHERE WHAT IT READS IS OF BULK AT MOST 1048576: true; the input reads as it did. -/
def qpEncodesUptoRow : OpenClaim := { program := "ytdjolkkifcjpdaa", sum := "2c3080b220a23d1223cdad18385d6b7b412a8f03faa4e3d51c34b46481543555", func := "muslin/muslinlaw02.QpEncodes", spec := "qpEncodes", apart := false, narrowed := true }
def QpEncodesUptoSaid : Prop := qpEncodesUptoRow.holds Try.pinned (OpenSpec.upto qpEncodesSpec)

/-- 'muslinlaw02.QpBack', WHERE WHAT IT READS IS OF BULK AT MOST 1048576: true; the input reads as it did. -/
def qpBackUptoRow : OpenClaim := { program := "ytdjolkkifcjpdaa", sum := "2c3080b220a23d1223cdad18385d6b7b412a8f03faa4e3d51c34b46481543555", func := "muslin/muslinlaw02.QpBack", spec := "qpBack", apart := false, narrowed := true }
def QpBackUptoSaid : Prop := qpBackUptoRow.holds Try.pinned (OpenSpec.upto qpBackSpec)

/-- 'muslinlaw02.QpLines', WHERE WHAT IT READS IS OF BULK AT MOST 1048576: true; the input reads as it did. -/
def qpLinesUptoRow : OpenClaim := { program := "ytdjolkkifcjpdaa", sum := "2c3080b220a23d1223cdad18385d6b7b412a8f03faa4e3d51c34b46481543555", func := "muslin/muslinlaw02.QpLines", spec := "qpLines", apart := false, narrowed := true }
def QpLinesUptoSaid : Prop := qpLinesUptoRow.holds Try.pinned (OpenSpec.upto qpLinesSpec)

/-- 'muslinlaw02.QpPlain', WHERE WHAT IT READS IS OF BULK AT MOST 1048576: true; the input reads as it did. -/
def qpPlainUptoRow : OpenClaim := { program := "ytdjolkkifcjpdaa", sum := "2c3080b220a23d1223cdad18385d6b7b412a8f03faa4e3d51c34b46481543555", func := "muslin/muslinlaw02.QpPlain", spec := "qpPlain", apart := false, narrowed := true }
def QpPlainUptoSaid : Prop := qpPlainUptoRow.holds Try.pinned (OpenSpec.upto qpPlainSpec)

/-- 'muslinlaw02.QpJoined', WHERE WHAT IT READS IS OF BULK AT MOST 1048576: true; the input reads as it did. -/
def qpJoinedUptoRow : OpenClaim := { program := "ytdjolkkifcjpdaa", sum := "2c3080b220a23d1223cdad18385d6b7b412a8f03faa4e3d51c34b46481543555", func := "muslin/muslinlaw02.QpJoined", spec := "qpJoined", apart := false, narrowed := true }
def QpJoinedUptoSaid : Prop := qpJoinedUptoRow.holds Try.pinned (OpenSpec.upto qpJoinedSpec)

end Rows
end Go.Proofs.Ytdjolkkifcjpdaa
