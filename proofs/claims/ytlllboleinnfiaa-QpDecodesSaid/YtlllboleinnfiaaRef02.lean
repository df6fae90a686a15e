/- WALKS of the reference's Hex and Digits. No statement is proved here. -/
import Derived.Test.YtlllboleinnfiaaHexP
namespace Go.Proofs.Ytlllboleinnfiaa
open Go.RowKit
set_option linter.unusedVariables false
set_option linter.unusedSimpArgs false

set_option maxHeartbeats 1000000 in
theorem refHex_any (c : UInt8) (w : World) :
    Calls Try.prog 20 #[.int .u8 c.toNat] w fun e w' => e = .returned (.int .i64 (hexI c)) ∧ w = w' := by
  have hc := byte_lt c
  have hv := hexN_val c
  have hI : hexI c = if 48 ≤ c.toNat ∧ c.toNat ≤ 57 then (c.toNat : Int) - 48 else if 65 ≤ c.toNat ∧ c.toNat ≤ 70 then (c.toNat : Int) - 65 + 10 else if 97 ≤ c.toNat ∧ c.toNat ≤ 102 then (c.toNat : Int) - 97 + 10 else -1 := by
    unfold hexI
    rw [hv]
    repeat' split
    all_goals omega
  clear hv
  rw [hI]
  clear hI
  have hcase : (48 ≤ c.toNat ∧ c.toNat ≤ 57) ∨ (65 ≤ c.toNat ∧ c.toNat ≤ 70) ∨ (97 ≤ c.toNat ∧ c.toNat ≤ 102) ∨ c.toNat < 48 ∨ (57 < c.toNat ∧ c.toNat < 65) ∨ (70 < c.toNat ∧ c.toNat < 97) ∨ 102 < c.toNat := by omega
  rcases hcase with ⟨h1, h2⟩ | ⟨h1, h2⟩ | ⟨h1, h2⟩ | h1 | ⟨h1, h2⟩ | ⟨h1, h2⟩ | h1
  all_goals
    go_enter Try.func20, Try.ntmps20
    go_wp2
    go_ret
    refine ⟨ret_int ?_, rfl⟩
    repeat' split
    all_goals omega

theorem refHex_still {c : UInt8} {n : Int} (h : hexI c = n) (w : World) : Calls Try.prog 20 #[.int .u8 c.toNat] w fun e w' => e = .returned (.int .i64 n) ∧ w' = w :=
  (refHex_any c w).mono fun _ _ ⟨he, hw⟩ => ⟨by rw [he, h], hw.symm⟩

set_option maxHeartbeats 1000000 in
theorem refDigits_any (c : UInt8) (w : World) :
    Calls Try.prog 23 #[.int .u8 c.toNat] w fun e w' => e = .returned (.string (str [hexHi c, hexLo c])) ∧ Below w.heap.size w w' := by
  have hc := byte_lt c
  have k1 : 0 ≤ (c.toNat : Int) / 16 := by omega
  have k2 : (c.toNat : Int) / 16 < 16 := by omega
  have k3 : 0 ≤ (c.toNat : Int) % 16 := by omega
  have k4 : (c.toNat : Int) % 16 < 16 := by omega
  go_enter Try.func23, Try.ntmps23
  go_wp2_with fail
  go_region
  all_goals (try go_wp2)
  all_goals
    go_ret
    exact ⟨ret_str (by rw [extract1 _ (by omega), extract1 _ (by omega)]; rfl), (Below.refl _ _).drew⟩

end Go.Proofs.Ytlllboleinnfiaa
