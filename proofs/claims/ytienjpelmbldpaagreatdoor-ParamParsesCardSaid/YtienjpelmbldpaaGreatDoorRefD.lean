/- WALK of the reference's Decode for chars. No statement is proved here. -/
import Derived.Test.YtienjpelmbldpaaGreatDoorRefD0
import Derived.Test.YtienjpelmbldpaaGreatDoorRefD2
import Derived.Test.YtienjpelmbldpaaGreatDoorRefD3
import Derived.Test.YtienjpelmbldpaaGreatDoorRefD4
import Derived.Test.YtienjpelmbldpaaGreatDoorBaseN
namespace Go.Proofs.YtienjpelmbldpaaGreatDoor
open Go.RowKit
set_option linter.unusedVariables false
set_option linter.unusedSimpArgs false

theorem refCharsDecode_any (label s : ByteArray) (w : World) (hl : label.size ≤ 70368744177664) (hs : s.size ≤ 1048576) :
    Calls Tryz.prog 47 #[.string label, .string s] w fun e w' => e = .returned (decV (kindL label.data.toList) s.data.toList) ∧ Below w.heap.size w w' := by
  have hk5 := kind_lt label.data.toList
  have : kindL label.data.toList = 0 ∨ kindL label.data.toList = 1 ∨ kindL label.data.toList = 2 ∨ kindL label.data.toList = 3 ∨ kindL label.data.toList = 4 := by omega
  rcases this with h | h | h | h | h
  · rw [h]; exact refDec0 label s w hl hs h
  · rw [h]; exact refDec1 label s w hl hs h
  · rw [h]; exact refDec2 label s w hl hs h
  · rw [h]; exact refDec3 label s w hl hs h
  · rw [h]; exact refDec4 label s w hl hs h
end Go.Proofs.YtienjpelmbldpaaGreatDoor
