/- WALKS: rules.Attr. No statement is proved here. Own work of the verifier. -/
import Derived.Test.YtklbdobofclofaaGreatDoorRulesE
namespace Go.Proofs.YtklbdobofclofaaGreatDoor
open Go.RowKit
set_option linter.unusedVariables false
set_option linter.unusedSimpArgs false
set_option maxRecDepth 100000
set_option maxHeartbeats 8000000 in
theorem attr_any (e n : ByteArray) (w : World) :
    Calls Tryz.prog 10 #[.string e, .string n] w fun r w' => r = .returned (.bool (attrB e.data.toList n.data.toList)) ∧ w = w' := by
  cases hk : attrsL.contains n.data.toList with
  | true =>
    rcases attrsL_cases _ hk with h | h | h | h | h | h | h | h | h | h | h
    · obtain rfl : n = ⟨#[116, 105, 116, 108, 101]⟩ := ext_list h
      have hv : attrB e.data.toList (⟨#[116, 105, 116, 108, 101]⟩ : ByteArray).data.toList = (((elemN e.data.toList : Nat) : Int) == 2) := rfl
      rw [hv]
      clear hk h hv
      go_enter Tryz.func10, Tryz.ntmps10
      go_wp2_with fail
      refine (element_any e _).mono ?_
      rintro r w1 ⟨rfl, rfl⟩
      go_wp2_with fail
      go_ret
      exact ⟨rfl, rfl⟩
    · obtain rfl : n = ⟨#[100, 105, 114]⟩ := ext_list h
      have hv : attrB e.data.toList (⟨#[100, 105, 114]⟩ : ByteArray).data.toList = (((elemN e.data.toList : Nat) : Int) == 2) := rfl
      rw [hv]
      clear hk h hv
      go_enter Tryz.func10, Tryz.ntmps10
      go_wp2_with fail
      refine (element_any e _).mono ?_
      rintro r w1 ⟨rfl, rfl⟩
      go_wp2_with fail
      go_ret
      exact ⟨rfl, rfl⟩
    · obtain rfl : n = ⟨#[108, 97, 110, 103]⟩ := ext_list h
      have hv : attrB e.data.toList (⟨#[108, 97, 110, 103]⟩ : ByteArray).data.toList = (((elemN e.data.toList : Nat) : Int) == 2) := rfl
      rw [hv]
      clear hk h hv
      go_enter Tryz.func10, Tryz.ntmps10
      go_wp2_with fail
      refine (element_any e _).mono ?_
      rintro r w1 ⟨rfl, rfl⟩
      go_wp2_with fail
      go_ret
      exact ⟨rfl, rfl⟩
    · obtain rfl : n = ⟨#[115, 116, 121, 108, 101]⟩ := ext_list h
      have hv : attrB e.data.toList (⟨#[115, 116, 121, 108, 101]⟩ : ByteArray).data.toList = (((elemN e.data.toList : Nat) : Int) == 2) := rfl
      rw [hv]
      clear hk h hv
      go_enter Tryz.func10, Tryz.ntmps10
      go_wp2_with fail
      refine (element_any e _).mono ?_
      rintro r w1 ⟨rfl, rfl⟩
      go_wp2_with fail
      go_ret
      exact ⟨rfl, rfl⟩
    · obtain rfl : n = ⟨#[104, 114, 101, 102]⟩ := ext_list h
      have hv : attrB e.data.toList (⟨#[104, 114, 101, 102]⟩ : ByteArray).data.toList = (e.data.toList == [97]) := rfl
      rw [hv]
      clear hk h hv
      rw [← bytes_list]
      go_enter Tryz.func10, Tryz.ntmps10
      go_wp2_with fail
      go_ret
      exact ⟨rfl, rfl⟩
    · obtain rfl : n = ⟨#[115, 114, 99]⟩ := ext_list h
      have hv : attrB e.data.toList (⟨#[115, 114, 99]⟩ : ByteArray).data.toList = (e.data.toList == [105, 109, 103]) := rfl
      rw [hv]
      clear hk h hv
      rw [← bytes_list]
      go_enter Tryz.func10, Tryz.ntmps10
      go_wp2_with fail
      go_ret
      exact ⟨rfl, rfl⟩
    · obtain rfl : n = ⟨#[97, 108, 116]⟩ := ext_list h
      have hv : attrB e.data.toList (⟨#[97, 108, 116]⟩ : ByteArray).data.toList = (e.data.toList == [105, 109, 103]) := rfl
      rw [hv]
      clear hk h hv
      rw [← bytes_list]
      go_enter Tryz.func10, Tryz.ntmps10
      go_wp2_with fail
      go_ret
      exact ⟨rfl, rfl⟩
    · obtain rfl : n = ⟨#[119, 105, 100, 116, 104]⟩ := ext_list h
      have hv : attrB e.data.toList (⟨#[119, 105, 100, 116, 104]⟩ : ByteArray).data.toList = (e.data.toList == [105, 109, 103]) := rfl
      rw [hv]
      clear hk h hv
      rw [← bytes_list]
      go_enter Tryz.func10, Tryz.ntmps10
      go_wp2_with fail
      go_ret
      exact ⟨rfl, rfl⟩
    · obtain rfl : n = ⟨#[104, 101, 105, 103, 104, 116]⟩ := ext_list h
      have hv : attrB e.data.toList (⟨#[104, 101, 105, 103, 104, 116]⟩ : ByteArray).data.toList = (e.data.toList == [105, 109, 103]) := rfl
      rw [hv]
      clear hk h hv
      rw [← bytes_list]
      go_enter Tryz.func10, Tryz.ntmps10
      go_wp2_with fail
      go_ret
      exact ⟨rfl, rfl⟩
    · obtain rfl : n = ⟨#[115, 116, 97, 114, 116]⟩ := ext_list h
      have hv : attrB e.data.toList (⟨#[115, 116, 97, 114, 116]⟩ : ByteArray).data.toList = (e.data.toList == [111, 108]) := rfl
      rw [hv]
      clear hk h hv
      rw [← bytes_list]
      go_enter Tryz.func10, Tryz.ntmps10
      go_wp2_with fail
      go_ret
      exact ⟨rfl, rfl⟩
    · obtain rfl : n = ⟨#[118, 97, 108, 117, 101]⟩ := ext_list h
      have hv : attrB e.data.toList (⟨#[118, 97, 108, 117, 101]⟩ : ByteArray).data.toList = (e.data.toList == [108, 105]) := rfl
      rw [hv]
      clear hk h hv
      rw [← bytes_list]
      go_enter Tryz.func10, Tryz.ntmps10
      go_wp2_with fail
      go_ret
      exact ⟨rfl, rfl⟩
  | false =>
    have hv := attrB_none e.data.toList _ hk
    rw [hv]
    obtain ⟨n0, n1, n2, n3, n4, n5, n6, n7, n8, n9, n10⟩ := attrsL_none _ hk
    have t0 : (n.toList == [116, 105, 116, 108, 101]) = false := beq_eq_false_iff_ne.2 (by rw [bytes_list]; exact n0)
    have t1 : (n.toList == [100, 105, 114]) = false := beq_eq_false_iff_ne.2 (by rw [bytes_list]; exact n1)
    have t2 : (n.toList == [108, 97, 110, 103]) = false := beq_eq_false_iff_ne.2 (by rw [bytes_list]; exact n2)
    have t3 : (n.toList == [115, 116, 121, 108, 101]) = false := beq_eq_false_iff_ne.2 (by rw [bytes_list]; exact n3)
    have t4 : (n.toList == [104, 114, 101, 102]) = false := beq_eq_false_iff_ne.2 (by rw [bytes_list]; exact n4)
    have t5 : (n.toList == [115, 114, 99]) = false := beq_eq_false_iff_ne.2 (by rw [bytes_list]; exact n5)
    have t6 : (n.toList == [97, 108, 116]) = false := beq_eq_false_iff_ne.2 (by rw [bytes_list]; exact n6)
    have t7 : (n.toList == [119, 105, 100, 116, 104]) = false := beq_eq_false_iff_ne.2 (by rw [bytes_list]; exact n7)
    have t8 : (n.toList == [104, 101, 105, 103, 104, 116]) = false := beq_eq_false_iff_ne.2 (by rw [bytes_list]; exact n8)
    have t9 : (n.toList == [115, 116, 97, 114, 116]) = false := beq_eq_false_iff_ne.2 (by rw [bytes_list]; exact n9)
    have t10 : (n.toList == [118, 97, 108, 117, 101]) = false := beq_eq_false_iff_ne.2 (by rw [bytes_list]; exact n10)
    clear hv hk n0 n1 n2 n3 n4 n5 n6 n7 n8 n9 n10
    go_enter Tryz.func10, Tryz.ntmps10
    go_wp2_with fail
    go_ret
    exact ⟨rfl, rfl⟩
end Go.Proofs.YtklbdobofclofaaGreatDoor
