/- WALK of ascii.Hex. No statement is proved here. -/
import Derived.Test.YtienjpelmbldpaaHexW
namespace Go.Proofs.Ytienjpelmbldpaa
open Go.RowKit
set_option linter.unusedVariables false
set_option linter.unusedSimpArgs false

set_option maxHeartbeats 1000000 in
theorem asciiHex_any (c : UInt8) (w : World) :
    Calls Try.prog 28 #[.int .u8 c.toNat] w fun e w' => e = .returned (.string (str [hexHi c, hexLo c])) ∧ Below w.heap.size w w' := by
  have hc := byte_lt c
  have ha := and15 c.toNat hc
  have hcv := conv2d
  have k1 : 0 ≤ (c.toNat : Int) / 16 := by omega
  have k2 : (c.toNat : Int) / 16 < 16 := by omega
  have k3 : 0 ≤ (c.toNat : Int) % 16 := by omega
  have k4 : (c.toNat : Int) % 16 < 16 := by omega
  go_enter Try.func28, Try.ntmps28
  go_wp2_with fail
  go_region
  all_goals (try go_wp2)
  all_goals
    go_ret
    exact ⟨ret_str (nums_str (by simp only [List.map_cons, List.map_nil, digit_at]; rfl)), ((Below.refl _ _).alloc (Nat.le_refl _) _).drew⟩
end Go.Proofs.Ytienjpelmbldpaa
