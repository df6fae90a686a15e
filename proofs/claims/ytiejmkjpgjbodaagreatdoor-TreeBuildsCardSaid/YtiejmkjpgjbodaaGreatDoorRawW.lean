import Derived.Test.YtiejmkjpgjbodaaGreatDoorBaseN
namespace Go.Proofs.YtiejmkjpgjbodaaGreatDoor
open Go.RowKit
set_option linter.unusedVariables false
set_option linter.unusedSimpArgs false
set_option maxRecDepth 100000
set_option maxHeartbeats 4000000 in
theorem rawW_any (n : ByteArray) (w : World) :
    Calls Tryz.prog 99 #[.string n] w fun e w' => e = .returned (.bool (rawL.contains n.data.toList)) ∧ w = w' := by
  cases hk : rawL.contains n.data.toList with
  | true =>
    rcases rawL_cases _ hk with h | h | h | h | h | h | h | h | h | h
    · obtain rfl : n = ⟨#[115, 99, 114, 105, 112, 116]⟩ := ext_list h
      clear hk h
      go_enter Tryz.func99, Tryz.ntmps99
      go_wp2_with fail
      go_ret
      exact ⟨rfl, rfl⟩
    · obtain rfl : n = ⟨#[115, 116, 121, 108, 101]⟩ := ext_list h
      clear hk h
      go_enter Tryz.func99, Tryz.ntmps99
      go_wp2_with fail
      go_ret
      exact ⟨rfl, rfl⟩
    · obtain rfl : n = ⟨#[116, 105, 116, 108, 101]⟩ := ext_list h
      clear hk h
      go_enter Tryz.func99, Tryz.ntmps99
      go_wp2_with fail
      go_ret
      exact ⟨rfl, rfl⟩
    · obtain rfl : n = ⟨#[116, 101, 120, 116, 97, 114, 101, 97]⟩ := ext_list h
      clear hk h
      go_enter Tryz.func99, Tryz.ntmps99
      go_wp2_with fail
      go_ret
      exact ⟨rfl, rfl⟩
    · obtain rfl : n = ⟨#[120, 109, 112]⟩ := ext_list h
      clear hk h
      go_enter Tryz.func99, Tryz.ntmps99
      go_wp2_with fail
      go_ret
      exact ⟨rfl, rfl⟩
    · obtain rfl : n = ⟨#[105, 102, 114, 97, 109, 101]⟩ := ext_list h
      clear hk h
      go_enter Tryz.func99, Tryz.ntmps99
      go_wp2_with fail
      go_ret
      exact ⟨rfl, rfl⟩
    · obtain rfl : n = ⟨#[110, 111, 101, 109, 98, 101, 100]⟩ := ext_list h
      clear hk h
      go_enter Tryz.func99, Tryz.ntmps99
      go_wp2_with fail
      go_ret
      exact ⟨rfl, rfl⟩
    · obtain rfl : n = ⟨#[110, 111, 102, 114, 97, 109, 101, 115]⟩ := ext_list h
      clear hk h
      go_enter Tryz.func99, Tryz.ntmps99
      go_wp2_with fail
      go_ret
      exact ⟨rfl, rfl⟩
    · obtain rfl : n = ⟨#[112, 108, 97, 105, 110, 116, 101, 120, 116]⟩ := ext_list h
      clear hk h
      go_enter Tryz.func99, Tryz.ntmps99
      go_wp2_with fail
      go_ret
      exact ⟨rfl, rfl⟩
    · obtain rfl : n = ⟨#[110, 111, 115, 99, 114, 105, 112, 116]⟩ := ext_list h
      clear hk h
      go_enter Tryz.func99, Tryz.ntmps99
      go_wp2_with fail
      go_ret
      exact ⟨rfl, rfl⟩
  | false =>
    obtain ⟨n0, n1, n2, n3, n4, n5, n6, n7, n8, n9⟩ := rawL_none _ hk
    have t0 : (n.toList == [115, 99, 114, 105, 112, 116]) = false := beq_eq_false_iff_ne.2 (by rw [bytes_list]; exact n0)
    have t1 : (n.toList == [115, 116, 121, 108, 101]) = false := beq_eq_false_iff_ne.2 (by rw [bytes_list]; exact n1)
    have t2 : (n.toList == [116, 105, 116, 108, 101]) = false := beq_eq_false_iff_ne.2 (by rw [bytes_list]; exact n2)
    have t3 : (n.toList == [116, 101, 120, 116, 97, 114, 101, 97]) = false := beq_eq_false_iff_ne.2 (by rw [bytes_list]; exact n3)
    have t4 : (n.toList == [120, 109, 112]) = false := beq_eq_false_iff_ne.2 (by rw [bytes_list]; exact n4)
    have t5 : (n.toList == [105, 102, 114, 97, 109, 101]) = false := beq_eq_false_iff_ne.2 (by rw [bytes_list]; exact n5)
    have t6 : (n.toList == [110, 111, 101, 109, 98, 101, 100]) = false := beq_eq_false_iff_ne.2 (by rw [bytes_list]; exact n6)
    have t7 : (n.toList == [110, 111, 102, 114, 97, 109, 101, 115]) = false := beq_eq_false_iff_ne.2 (by rw [bytes_list]; exact n7)
    have t8 : (n.toList == [112, 108, 97, 105, 110, 116, 101, 120, 116]) = false := beq_eq_false_iff_ne.2 (by rw [bytes_list]; exact n8)
    have t9 : (n.toList == [110, 111, 115, 99, 114, 105, 112, 116]) = false := beq_eq_false_iff_ne.2 (by rw [bytes_list]; exact n9)
    clear hk n0 n1 n2 n3 n4 n5 n6 n7 n8 n9
    go_enter Tryz.func99, Tryz.ntmps99
    go_wp2_with fail
    go_ret
    exact ⟨rfl, rfl⟩
end Go.Proofs.YtiejmkjpgjbodaaGreatDoor
