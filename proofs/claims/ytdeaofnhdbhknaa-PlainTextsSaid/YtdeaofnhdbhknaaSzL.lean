/- Empty texts, a text value's size: split off XLinesW and XRef06. No statement is proved here. Own work of the verifier. -/
import Derived.Test.YtdeaofnhdbhknaaBaseM
namespace Go.Proofs.Ytdeaofnhdbhknaa
open Go.RowKit
theorem emptyE {x : ByteArray} (h : x.data.toList = []) : x.toList.isEmpty = true := by rw [bytes_list, h]; rfl
theorem emptyN {x : ByteArray} (h : x.data.toList ≠ []) : x.toList.isEmpty = false := by
  rw [bytes_list]
  cases hx : x.data.toList with
  | nil => exact absurd hx h
  | cons _ _ => rfl
def szL (v : Value) : Nat := match v with | .string x => x.size | _ => 0
end Go.Proofs.Ytdeaofnhdbhknaa
