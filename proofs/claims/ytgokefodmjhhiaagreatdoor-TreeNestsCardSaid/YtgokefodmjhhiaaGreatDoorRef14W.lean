/- WALK of the law's own wall (layer 14). Written by wip/tools/treenames.py. No statement is proved here. Own work of the verifier. -/
import Derived.Test.YtgokefodmjhhiaaGreatDoorBaseN
namespace Go.Proofs.YtgokefodmjhhiaaGreatDoor
open Go.RowKit
set_option linter.unusedVariables false
set_option linter.unusedSimpArgs false
set_option maxRecDepth 100000
set_option maxHeartbeats 8000000 in
theorem lwall14_any (n : ByteArray) (w : World) : Calls Tryz.prog 73 #[.string n] w fun e w' => e = .returned (.bool (wallL.contains n.data.toList)) ∧ w = w' := by
  cases hk : wallL.contains n.data.toList with
  | true =>
    have hc : n.data.toList = [116, 97, 98, 108, 101] ∨ n.data.toList = [98, 117, 116, 116, 111, 110] ∨ n.data.toList = [117, 108] ∨ n.data.toList = [111, 108] ∨ n.data.toList = [100, 108] ∨ n.data.toList = [115, 118, 103] ∨ n.data.toList = [109, 97, 116, 104] ∨ n.data.toList = [116, 101, 109, 112, 108, 97, 116, 101] ∨ n.data.toList = [111, 98, 106, 101, 99, 116] ∨ n.data.toList = [97, 112, 112, 108, 101, 116] ∨ n.data.toList = [109, 97, 114, 113, 117, 101, 101] := by simpa [wallL] using hk
    clear hk
    rcases hc with h | h | h | h | h | h | h | h | h | h | h
    · obtain rfl : n = ⟨#[116, 97, 98, 108, 101]⟩ := ext_list h
      clear h
      go_enter Tryz.func73, Tryz.ntmps73
      go_wp2_with fail
      go_ret
      exact ⟨rfl, rfl⟩
    · obtain rfl : n = ⟨#[98, 117, 116, 116, 111, 110]⟩ := ext_list h
      clear h
      go_enter Tryz.func73, Tryz.ntmps73
      go_wp2_with fail
      go_ret
      exact ⟨rfl, rfl⟩
    · obtain rfl : n = ⟨#[117, 108]⟩ := ext_list h
      clear h
      go_enter Tryz.func73, Tryz.ntmps73
      go_wp2_with fail
      go_ret
      exact ⟨rfl, rfl⟩
    · obtain rfl : n = ⟨#[111, 108]⟩ := ext_list h
      clear h
      go_enter Tryz.func73, Tryz.ntmps73
      go_wp2_with fail
      go_ret
      exact ⟨rfl, rfl⟩
    · obtain rfl : n = ⟨#[100, 108]⟩ := ext_list h
      clear h
      go_enter Tryz.func73, Tryz.ntmps73
      go_wp2_with fail
      go_ret
      exact ⟨rfl, rfl⟩
    · obtain rfl : n = ⟨#[115, 118, 103]⟩ := ext_list h
      clear h
      go_enter Tryz.func73, Tryz.ntmps73
      go_wp2_with fail
      go_ret
      exact ⟨rfl, rfl⟩
    · obtain rfl : n = ⟨#[109, 97, 116, 104]⟩ := ext_list h
      clear h
      go_enter Tryz.func73, Tryz.ntmps73
      go_wp2_with fail
      go_ret
      exact ⟨rfl, rfl⟩
    · obtain rfl : n = ⟨#[116, 101, 109, 112, 108, 97, 116, 101]⟩ := ext_list h
      clear h
      go_enter Tryz.func73, Tryz.ntmps73
      go_wp2_with fail
      go_ret
      exact ⟨rfl, rfl⟩
    · obtain rfl : n = ⟨#[111, 98, 106, 101, 99, 116]⟩ := ext_list h
      clear h
      go_enter Tryz.func73, Tryz.ntmps73
      go_wp2_with fail
      go_ret
      exact ⟨rfl, rfl⟩
    · obtain rfl : n = ⟨#[97, 112, 112, 108, 101, 116]⟩ := ext_list h
      clear h
      go_enter Tryz.func73, Tryz.ntmps73
      go_wp2_with fail
      go_ret
      exact ⟨rfl, rfl⟩
    · obtain rfl : n = ⟨#[109, 97, 114, 113, 117, 101, 101]⟩ := ext_list h
      clear h
      go_enter Tryz.func73, Tryz.ntmps73
      go_wp2_with fail
      go_ret
      exact ⟨rfl, rfl⟩
  | false =>
    have hc : n.data.toList ≠ [116, 97, 98, 108, 101] ∧ n.data.toList ≠ [98, 117, 116, 116, 111, 110] ∧ n.data.toList ≠ [117, 108] ∧ n.data.toList ≠ [111, 108] ∧ n.data.toList ≠ [100, 108] ∧ n.data.toList ≠ [115, 118, 103] ∧ n.data.toList ≠ [109, 97, 116, 104] ∧ n.data.toList ≠ [116, 101, 109, 112, 108, 97, 116, 101] ∧ n.data.toList ≠ [111, 98, 106, 101, 99, 116] ∧ n.data.toList ≠ [97, 112, 112, 108, 101, 116] ∧ n.data.toList ≠ [109, 97, 114, 113, 117, 101, 101] := by simpa [wallL] using hk
    clear hk
    obtain ⟨tn0, tn1, tn2, tn3, tn4, tn5, tn6, tn7, tn8, tn9, tn10⟩ := hc
    have t0 : (n.toList == [116, 97, 98, 108, 101]) = false := beq_eq_false_iff_ne.2 (by rw [bytes_list]; exact tn0)
    have t1 : (n.toList == [98, 117, 116, 116, 111, 110]) = false := beq_eq_false_iff_ne.2 (by rw [bytes_list]; exact tn1)
    have t2 : (n.toList == [117, 108]) = false := beq_eq_false_iff_ne.2 (by rw [bytes_list]; exact tn2)
    have t3 : (n.toList == [111, 108]) = false := beq_eq_false_iff_ne.2 (by rw [bytes_list]; exact tn3)
    have t4 : (n.toList == [100, 108]) = false := beq_eq_false_iff_ne.2 (by rw [bytes_list]; exact tn4)
    have t5 : (n.toList == [115, 118, 103]) = false := beq_eq_false_iff_ne.2 (by rw [bytes_list]; exact tn5)
    have t6 : (n.toList == [109, 97, 116, 104]) = false := beq_eq_false_iff_ne.2 (by rw [bytes_list]; exact tn6)
    have t7 : (n.toList == [116, 101, 109, 112, 108, 97, 116, 101]) = false := beq_eq_false_iff_ne.2 (by rw [bytes_list]; exact tn7)
    have t8 : (n.toList == [111, 98, 106, 101, 99, 116]) = false := beq_eq_false_iff_ne.2 (by rw [bytes_list]; exact tn8)
    have t9 : (n.toList == [97, 112, 112, 108, 101, 116]) = false := beq_eq_false_iff_ne.2 (by rw [bytes_list]; exact tn9)
    have t10 : (n.toList == [109, 97, 114, 113, 117, 101, 101]) = false := beq_eq_false_iff_ne.2 (by rw [bytes_list]; exact tn10)
    clear tn0 tn1 tn2 tn3 tn4 tn5 tn6 tn7 tn8 tn9 tn10
    go_enter Tryz.func73, Tryz.ntmps73
    go_wp2_with fail
    go_ret
    exact ⟨rfl, rfl⟩
end Go.Proofs.YtgokefodmjhhiaaGreatDoor
