import Derived.Test.YtiejmkjpgjbodaaGreatDoorSerW
namespace Go.Proofs.YtiejmkjpgjbodaaGreatDoor
open Go.RowKit
set_option linter.unusedVariables false
set_option linter.unusedSimpArgs false
set_option maxRecDepth 100000
def cntL : List (NdH × Tr) → Nat
  | [] => 0
  | p :: r => 1 + p.2.count + cntL r
theorem cntL_list (T : Tr) : T.count = cntL T.list := by induction T with
  | nil => rfl
  | cons h K R _ ih => simp only [Tr.count, Tr.list, cntL, ih]
theorem cntL_snoc (l : List (NdH × Tr)) (p : NdH × Tr) : cntL (l ++ [p]) = cntL l + (1 + p.2.count) := by induction l with
  | nil => simp [cntL]
  | cons q r ih => simp only [List.cons_append, cntL, ih]; omega
end Go.Proofs.YtiejmkjpgjbodaaGreatDoor
