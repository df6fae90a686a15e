/- WALKS of the reference's Letter and Digit. No statement is proved here. -/
import Derived.Test.YtlhjdjjbmljilaaDoorKit
namespace Go.Proofs.YtlhjdjjbmljilaaDoor
open Go.RowKit
set_option linter.unusedVariables false
set_option linter.unusedSimpArgs false

def letterB (c : UInt8) : Bool := (97 ≤ c && c ≤ 122) || (65 ≤ c && c ≤ 90)
def digitB (c : UInt8) : Bool := 48 ≤ c && c ≤ 57
theorem letter_case (c : UInt8) : (97 ≤ c.toNat ∧ c.toNat ≤ 122 ∧ letterB c = true) ∨ (c.toNat < 97 ∧ 65 ≤ c.toNat ∧ c.toNat ≤ 90 ∧ letterB c = true) ∨ (97 ≤ c.toNat ∧ 122 < c.toNat ∧ letterB c = false) ∨ (c.toNat < 97 ∧ 65 ≤ c.toNat ∧ 90 < c.toNat ∧ letterB c = false) ∨ (c.toNat < 97 ∧ c.toNat < 65 ∧ letterB c = false) :=
  u8_all (p := fun c => (97 ≤ c.toNat ∧ c.toNat ≤ 122 ∧ letterB c = true) ∨ (c.toNat < 97 ∧ 65 ≤ c.toNat ∧ c.toNat ≤ 90 ∧ letterB c = true) ∨ (97 ≤ c.toNat ∧ 122 < c.toNat ∧ letterB c = false) ∨ (c.toNat < 97 ∧ 65 ≤ c.toNat ∧ 90 < c.toNat ∧ letterB c = false) ∨ (c.toNat < 97 ∧ c.toNat < 65 ∧ letterB c = false)) (by decide +kernel) c
theorem digit_case (c : UInt8) : (48 ≤ c.toNat ∧ c.toNat ≤ 57 ∧ digitB c = true) ∨ (c.toNat < 48 ∧ digitB c = false) ∨ (48 ≤ c.toNat ∧ 57 < c.toNat ∧ digitB c = false) :=
  u8_all (p := fun c => (48 ≤ c.toNat ∧ c.toNat ≤ 57 ∧ digitB c = true) ∨ (c.toNat < 48 ∧ digitB c = false) ∨ (48 ≤ c.toNat ∧ 57 < c.toNat ∧ digitB c = false)) (by decide +kernel) c

theorem letter_any (c : UInt8) (w : World) :
    Calls Tryd.prog 47 #[.int .u8 c.toNat] w fun e w' => e = .returned (.bool (letterB c)) ∧ w = w' := by
  have hc := byte_lt c
  rcases letter_case c with ⟨c1, c2, e⟩ | ⟨c1, c2, c3, e⟩ | ⟨c1, c2, e⟩ | ⟨c1, c2, c3, e⟩ | ⟨c1, c2, e⟩
  all_goals
    rw [e]; clear e
    go_enter Tryd.func47, Tryd.ntmps47
    go_wp2
    go_ret
    exact ⟨ret_bool (by first | rfl | (simp; omega)), rfl⟩
theorem digit03_any (c : UInt8) (w : World) :
    Calls Tryd.prog 48 #[.int .u8 c.toNat] w fun e w' => e = .returned (.bool (digitB c)) ∧ w = w' := by
  have hc := byte_lt c
  rcases digit_case c with ⟨c1, c2, e⟩ | ⟨c1, e⟩ | ⟨c1, c2, e⟩
  all_goals
    rw [e]; clear e
    go_enter Tryd.func48, Tryd.ntmps48
    go_wp2
    go_ret
    exact ⟨ret_bool (by first | rfl | (simp; omega)), rfl⟩

end Go.Proofs.YtlhjdjjbmljilaaDoor
