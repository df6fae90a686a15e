/- What package addr's machine computes. No statement is proved here. -/
import Derived.Test.YtnckbdkofbhilaaGreatDoorBaseM
namespace Go.Proofs.YtnckbdkofbhilaaGreatDoor
set_option linter.unusedVariables false
set_option linter.unusedSimpArgs false
/-- what is open: quotes, how many remarks, does the byte that comes belong to a pair -/
structure MSt where
  q : Bool
  r : Nat
  p : Bool
/-- does a byte in a stretch begin a pair or belong to one -/
def inPairB (p : Bool) (c : UInt8) : Bool := p || c == 92
def nextP (p : Bool) (c : UInt8) : Bool := !p && c == 92
/-- a byte while a remark is open: where it stands, what is open behind it -/
def takeR (m : MSt) (c : UInt8) : Nat × MSt :=
  if inPairB m.p c then (2, { m with p := nextP m.p c })
  else
    let r' := if c = 40 then m.r + 1 else if c = 41 then m.r - 1 else m.r
    (if r' = 0 then 3 else 2, { m with r := r', p := nextP m.p c })
def takeB (m : MSt) (c : UInt8) : Nat × MSt :=
  if m.q then (1, { m with q := inPairB m.p c || c != 34, p := nextP m.p c })
  else if 0 < m.r then takeR m c
  else if c = 34 then (1, { m with q := true })
  else if c = 40 then (3, { m with r := 1 })
  else (0, m)
/-- where each byte of a text stands -/
def placesM : MSt → List UInt8 → List Nat
  | _, [] => []
  | m, c :: l => (takeB m c).1 :: placesM (takeB m c).2 l
end Go.Proofs.YtnckbdkofbhilaaGreatDoor
