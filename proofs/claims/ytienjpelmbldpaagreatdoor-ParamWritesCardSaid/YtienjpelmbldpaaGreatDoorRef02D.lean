/- WALK of the reference's Digits. No statement is proved here. -/
import Derived.Test.YtienjpelmbldpaaGreatDoorBaseM
namespace Go.Proofs.YtienjpelmbldpaaGreatDoor
open Go.RowKit
set_option linter.unusedVariables false
set_option linter.unusedSimpArgs false

set_option maxHeartbeats 1000000 in
theorem refDigits_any (c : UInt8) (w : World) :
    Calls Tryz.prog 58 #[.int .u8 c.toNat] w fun e w' => e = .returned (.string (str [hexHi c, hexLo c])) ∧ Below w.heap.size w w' := by
  have hc := byte_lt c
  have k1 : 0 ≤ (c.toNat : Int) / 16 := by omega
  have k2 : (c.toNat : Int) / 16 < 16 := by omega
  have k3 : 0 ≤ (c.toNat : Int) % 16 := by omega
  have k4 : (c.toNat : Int) % 16 < 16 := by omega
  go_enter Tryz.func58, Tryz.ntmps58
  go_wp2_with fail
  go_region
  all_goals (try go_wp2)
  all_goals
    go_ret
    exact ⟨ret_str (by rw [extract1 _ (by omega), extract1 _ (by omega)]; rfl), (Below.refl _ _).drew⟩

end Go.Proofs.YtienjpelmbldpaaGreatDoor
