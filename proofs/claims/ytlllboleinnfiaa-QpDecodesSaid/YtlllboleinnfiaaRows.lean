/-
  No cell of these rows narrows 'for every input' (looked for: loops, veiled, ifaces, maps, wideKeys, modest, calm, conditions, laid).
  DERIVED. THE GIVEN ROWS OF THIS SEAT. 6 by the template 'for every input the law returns true; each argument reads behind the call as it read before'; 0 by the template 'total and deterministic' (their statements: YtlllboleinnfiaaTotals.lean).
  GIVEN WITH THE SEED: the statements are not yours to turn. If you find one false, say at which input.
  Laid BY PROGRAM, IN A SANDBOX (cutbox-rows.mjs): the forced cells as the released guide's own fill.sh prints them over the translation 67a7ef765baecfa9… (all of the seat's roots in one cut). By AI agents, Wed Nov 11 2026. No macro, syntax, notation, axiom, sorry.
-/
import Derived.Test.YtlllboleinnfiaaChecked
import GoSem.Claim
import GoSem.ClaimJoined
import GoSem.ClaimMapViews
import Derived.JoinedTies
import Derived.KernelRfl
namespace Go.Proofs.Ytlllboleinnfiaa
/- THE CELL 'sum', in the pinned program and in every row, IS THE sha256 OF THE DUMP (.gsa) THAT YtlllboleinnfiaaProg.lean LOADS. Nothing in Lean hashes anything: it is a label: what it is worth is what the hold of that sum in a sandbox is worth. -/
noncomputable def Try.pinned : Pinned := { name := "ytlllboleinnfiaa", sum := "67a7ef765baecfa92de19b547b328c6f5586406fba821e65a08001da72a32458", checked := Try.checked }
namespace Rows
def none {H : Type} : Left H := { results := [], args := [] }

/-- 'muslinlaw02.QpDecodes': WHATEVER THE INPUT: true; the input reads as it did. -/
def qpDecodesSpec : ChangeSpec := { name := "qpDecodes", fn := fun _ => fun
  | [d] => { results := [.lit (.bool true)], args := [d] }
  | _ => none }
def qpDecodesRow : OpenClaim := { program := "ytlllboleinnfiaa", sum := "67a7ef765baecfa92de19b547b328c6f5586406fba821e65a08001da72a32458", func := "muslin/muslinlaw02.QpDecodes", spec := "qpDecodes", apart := false }
def QpDecodesSaid : Prop := qpDecodesRow.holds Try.pinned (OpenSpec.ofChange qpDecodesSpec)

/-- ITS FALSE NEIGHBOUR: 'it returns false'. Refute it at one input. -/
def qpDecodesWrong : ChangeSpec := { name := "qpDecodes", fn := fun _ => fun
  | [d] => { results := [.lit (.bool false)], args := [d] }
  | _ => none }
def QpDecodesWrongFalsely : Prop := qpDecodesRow.holds Try.pinned (OpenSpec.ofChange qpDecodesWrong)

/-- 'muslinlaw02.QpEncodes': WHATEVER THE INPUT: true; the input reads as it did. -/
def qpEncodesSpec : ChangeSpec := { name := "qpEncodes", fn := fun _ => fun
  | [d] => { results := [.lit (.bool true)], args := [d] }
  | _ => none }
def qpEncodesRow : OpenClaim := { program := "ytlllboleinnfiaa", sum := "67a7ef765baecfa92de19b547b328c6f5586406fba821e65a08001da72a32458", func := "muslin/muslinlaw02.QpEncodes", spec := "qpEncodes", apart := false }
def QpEncodesSaid : Prop := qpEncodesRow.holds Try.pinned (OpenSpec.ofChange qpEncodesSpec)

/-- ITS FALSE NEIGHBOUR: 'it returns false'. Refute it at one input. -/
def qpEncodesWrong : ChangeSpec := { name := "qpEncodes", fn := fun _ => fun
  | [d] => { results := [.lit (.bool false)], args := [d] }
  | _ => none }
def QpEncodesWrongFalsely : Prop := qpEncodesRow.holds Try.pinned (OpenSpec.ofChange qpEncodesWrong)

/-- 'muslinlaw02.QpBack': WHATEVER THE INPUT: true; the input reads as it did. -/
def qpBackSpec : ChangeSpec := { name := "qpBack", fn := fun _ => fun
  | [d] => { results := [.lit (.bool true)], args := [d] }
  | _ => none }
def qpBackRow : OpenClaim := { program := "ytlllboleinnfiaa", sum := "67a7ef765baecfa92de19b547b328c6f5586406fba821e65a08001da72a32458", func := "muslin/muslinlaw02.QpBack", spec := "qpBack", apart := false }
def QpBackSaid : Prop := qpBackRow.holds Try.pinned (OpenSpec.ofChange qpBackSpec)

/-- ITS FALSE NEIGHBOUR: 'it returns false'. Refute it at one input. -/
def qpBackWrong : ChangeSpec := { name := "qpBack", fn := fun _ => fun
  | [d] => { results := [.lit (.bool false)], args := [d] }
  | _ => none }
def QpBackWrongFalsely : Prop := qpBackRow.holds Try.pinned (OpenSpec.ofChange qpBackWrong)

/-- 'muslinlaw02.QpLines': WHATEVER THE INPUT: true; the input reads as it did. -/
def qpLinesSpec : ChangeSpec := { name := "qpLines", fn := fun _ => fun
  | [d] => { results := [.lit (.bool true)], args := [d] }
  | _ => none }
def qpLinesRow : OpenClaim := { program := "ytlllboleinnfiaa", sum := "67a7ef765baecfa92de19b547b328c6f5586406fba821e65a08001da72a32458", func := "muslin/muslinlaw02.QpLines", spec := "qpLines", apart := false }
def QpLinesSaid : Prop := qpLinesRow.holds Try.pinned (OpenSpec.ofChange qpLinesSpec)

/-- ITS FALSE NEIGHBOUR: 'it returns false'. Refute it at one input. -/
def qpLinesWrong : ChangeSpec := { name := "qpLines", fn := fun _ => fun
  | [d] => { results := [.lit (.bool false)], args := [d] }
  | _ => none }
def QpLinesWrongFalsely : Prop := qpLinesRow.holds Try.pinned (OpenSpec.ofChange qpLinesWrong)

/-- 'muslinlaw02.QpPlain': WHATEVER THE INPUT: true; the input reads as it did. -/
def qpPlainSpec : ChangeSpec := { name := "qpPlain", fn := fun _ => fun
  | [d] => { results := [.lit (.bool true)], args := [d] }
  | _ => none }
def qpPlainRow : OpenClaim := { program := "ytlllboleinnfiaa", sum := "67a7ef765baecfa92de19b547b328c6f5586406fba821e65a08001da72a32458", func := "muslin/muslinlaw02.QpPlain", spec := "qpPlain", apart := false }
def QpPlainSaid : Prop := qpPlainRow.holds Try.pinned (OpenSpec.ofChange qpPlainSpec)

/-- ITS FALSE NEIGHBOUR: 'it returns false'. Refute it at one input. -/
def qpPlainWrong : ChangeSpec := { name := "qpPlain", fn := fun _ => fun
  | [d] => { results := [.lit (.bool false)], args := [d] }
  | _ => none }
def QpPlainWrongFalsely : Prop := qpPlainRow.holds Try.pinned (OpenSpec.ofChange qpPlainWrong)

/-- 'muslinlaw02.QpJoined': WHATEVER THE INPUT: true; the input reads as it did. -/
def qpJoinedSpec : ChangeSpec := { name := "qpJoined", fn := fun _ => fun
  | [d] => { results := [.lit (.bool true)], args := [d] }
  | _ => none }
def qpJoinedRow : OpenClaim := { program := "ytlllboleinnfiaa", sum := "67a7ef765baecfa92de19b547b328c6f5586406fba821e65a08001da72a32458", func := "muslin/muslinlaw02.QpJoined", spec := "qpJoined", apart := false }
def QpJoinedSaid : Prop := qpJoinedRow.holds Try.pinned (OpenSpec.ofChange qpJoinedSpec)

/-- ITS FALSE NEIGHBOUR: 'it returns false'. Refute it at one input. -/
def qpJoinedWrong : ChangeSpec := { name := "qpJoined", fn := fun _ => fun
  | [d] => { results := [.lit (.bool false)], args := [d] }
  | _ => none }
def QpJoinedWrongFalsely : Prop := qpJoinedRow.holds Try.pinned (OpenSpec.ofChange qpJoinedWrong)

/- THE SECOND FORM. 'bulk': how many values and letters a reading holds, each counted each time it is reached (what is shared counts as often as it is met; a slice's spare places count too). A statement '..UptoSaid' is the law's where the arguments, and the package variables that the reading takes, are together of bulk at most 1048576: NARROWER than '..Said'. Prove '..Said' where nothing that the law and all that it calls make is longer than what came in: it says more and counts as full. Else prove '..UptoSaid'. A law counts once. -/
mutual
def uptoBulk {H : Type} : DataW H → Nat
  | .lit (.string bytes) => bytes.length + 1
  | .lit _ => 1
  | .nil => 1
  | .ptr d => uptoBulk d + 1
  | .slice elems spare => uptoBulkAll elems + uptoBulkAll spare + 1
  | .agg parts => uptoBulkAll parts + 1
  | .iface _ d => uptoBulk d + 1
  | .map entries => uptoBulkEntries entries + 1
  | .held _ => 1
def uptoBulkAll {H : Type} : List (DataW H) → Nat
  | [] => 0
  | d :: r => uptoBulk d + uptoBulkAll r
def uptoBulkEntries {H : Type} : List (Lit × DataW H) → Nat
  | [] => 0
  | x :: r => uptoBulkEntry x + uptoBulkEntries r
def uptoBulkEntry {H : Type} : Lit × DataW H → Nat
  | (.string bytes, d) => bytes.length + uptoBulk d + 1
  | (_, d) => uptoBulk d + 1
 end
def uptoSmall : (H : Type) → List (DataW H) → Bool := fun _ ds => decide (uptoBulkAll ds ≤ 1048576)
def OpenSpec.upto (s : _root_.Go.ChangeSpec) : _root_.Go.OpenSpec := { _root_.Go.OpenSpec.ofChange s with cond := some uptoSmall }

/-- 'muslinlaw02.QpDecodes', WHERE WHAT IT READS IS OF BULK AT MOST 1048576: true; the input reads as it did. -/
def qpDecodesUptoRow : OpenClaim := { program := "ytlllboleinnfiaa", sum := "67a7ef765baecfa92de19b547b328c6f5586406fba821e65a08001da72a32458", func := "muslin/muslinlaw02.QpDecodes", spec := "qpDecodes", apart := false, narrowed := true }
def QpDecodesUptoSaid : Prop := qpDecodesUptoRow.holds Try.pinned (OpenSpec.upto qpDecodesSpec)

/-- 'muslinlaw02.QpEncodes', WHERE WHAT IT READS IS OF BULK AT MOST 1048576: true; the input reads as it did. -/
def qpEncodesUptoRow : OpenClaim := { program := "ytlllboleinnfiaa", sum := "67a7ef765baecfa92de19b547b328c6f5586406fba821e65a08001da72a32458", func := "muslin/muslinlaw02.QpEncodes", spec := "qpEncodes", apart := false, narrowed := true }
def QpEncodesUptoSaid : Prop := qpEncodesUptoRow.holds Try.pinned (OpenSpec.upto qpEncodesSpec)

/-- 'muslinlaw02.QpBack', WHERE WHAT IT READS IS OF BULK AT MOST 1048576: true; the input reads as it did. -/
def qpBackUptoRow : OpenClaim := { program := "ytlllboleinnfiaa", sum := "67a7ef765baecfa92de19b547b328c6f5586406fba821e65a08001da72a32458", func := "muslin/muslinlaw02.QpBack", spec := "qpBack", apart := false, narrowed := true }
def QpBackUptoSaid : Prop := qpBackUptoRow.holds Try.pinned (OpenSpec.upto qpBackSpec)

/-- 'muslinlaw02.QpLines', WHERE WHAT IT READS IS OF BULK AT MOST 1048576: true; the input reads as it did. -/
def qpLinesUptoRow : OpenClaim := { program := "ytlllboleinnfiaa", sum := "67a7ef765baecfa92de19b547b328c6f5586406fba821e65a08001da72a32458", func := "muslin/muslinlaw02.QpLines", spec := "qpLines", apart := false, narrowed := true }
def QpLinesUptoSaid : Prop := qpLinesUptoRow.holds Try.pinned (OpenSpec.upto qpLinesSpec)

/-- 'muslinlaw02.QpPlain', WHERE WHAT IT READS IS OF BULK AT MOST 1048576: true; the input reads as it did. -/
def qpPlainUptoRow : OpenClaim := { program := "ytlllboleinnfiaa", sum := "67a7ef765baecfa92de19b547b328c6f5586406fba821e65a08001da72a32458", func := "muslin/muslinlaw02.QpPlain", spec := "qpPlain", apart := false, narrowed := true }
def QpPlainUptoSaid : Prop := qpPlainUptoRow.holds Try.pinned (OpenSpec.upto qpPlainSpec)

/-- 'muslinlaw02.QpJoined', WHERE WHAT IT READS IS OF BULK AT MOST 1048576: true; the input reads as it did. -/
def qpJoinedUptoRow : OpenClaim := { program := "ytlllboleinnfiaa", sum := "67a7ef765baecfa92de19b547b328c6f5586406fba821e65a08001da72a32458", func := "muslin/muslinlaw02.QpJoined", spec := "qpJoined", apart := false, narrowed := true }
def QpJoinedUptoSaid : Prop := qpJoinedUptoRow.holds Try.pinned (OpenSpec.upto qpJoinedSpec)

end Rows
end Go.Proofs.Ytlllboleinnfiaa
