/- WALK of the reference of layer 17: Safe. No statement is proved here. Own work of the verifier. -/
import Derived.Test.YtklbdobofclofaaGreatDoorCssD
import Derived.Test.YtklbdobofclofaaGreatDoorBaseM
import Derived.Deep.DeepCutAuto
import Derived.Deep.CutBlock
namespace Go.Proofs.YtklbdobofclofaaGreatDoor
open Go.RowKit
set_option linter.unusedVariables false
set_option linter.unusedSimpArgs false
set_option maxRecDepth 100000
theorem mark_cases (c : UInt8) : (c = 32 ∨ c = 35 ∨ c = 46 ∨ c = 37 ∨ c = 44 ∨ c = 45 ∨ c = 43 ∨ c = 33) ∨ (c ≠ 32 ∧ c ≠ 35 ∧ c ≠ 46 ∧ c ≠ 37 ∧ c ≠ 44 ∧ c ≠ 45 ∧ c ≠ 43 ∧ c ≠ 33 ∧ markB cssMarks c = (letterB c || digitB c)) :=
  u8_all (p := fun c => (c = 32 ∨ c = 35 ∨ c = 46 ∨ c = 37 ∨ c = 44 ∨ c = 45 ∨ c = 43 ∨ c = 33) ∨ (c ≠ 32 ∧ c ≠ 35 ∧ c ≠ 46 ∧ c ≠ 37 ∧ c ≠ 44 ∧ c ≠ 45 ∧ c ≠ 43 ∧ c ≠ 33 ∧ markB cssMarks c = (letterB c || digitB c))) (by decide +kernel) c
theorem names_cases (n : List UInt8) (h : cssNames.contains n = true) : n = [98, 97, 99, 107, 103, 114, 111, 117, 110, 100, 45, 99, 111, 108, 111, 114] ∨ n = [98, 111, 114, 100, 101, 114] ∨ n = [98, 111, 114, 100, 101, 114, 45, 98, 111, 116, 116, 111, 109] ∨ n = [98, 111, 114, 100, 101, 114, 45, 99, 111, 108, 108, 97, 112, 115, 101] ∨ n = [98, 111, 114, 100, 101, 114, 45, 99, 111, 108, 111, 114] ∨ n = [98, 111, 114, 100, 101, 114, 45, 108, 101, 102, 116] ∨ n = [98, 111, 114, 100, 101, 114, 45, 114, 105, 103, 104, 116] ∨ n = [98, 111, 114, 100, 101, 114, 45, 115, 112, 97, 99, 105, 110, 103] ∨ n = [98, 111, 114, 100, 101, 114, 45, 115, 116, 121, 108, 101] ∨ n = [98, 111, 114, 100, 101, 114, 45, 116, 111, 112] ∨ n = [98, 111, 114, 100, 101, 114, 45, 119, 105, 100, 116, 104] ∨ n = [99, 111, 108, 111, 114] ∨ n = [100, 105, 114, 101, 99, 116, 105, 111, 110] ∨ n = [102, 111, 110, 116, 45, 115, 105, 122, 101] ∨ n = [102, 111, 110, 116, 45, 115, 116, 121, 108, 101] ∨ n = [102, 111, 110, 116, 45, 119, 101, 105, 103, 104, 116] ∨ n = [104, 101, 105, 103, 104, 116] ∨ n = [108, 101, 116, 116, 101, 114, 45, 115, 112, 97, 99, 105, 110, 103] ∨ n = [108, 105, 110, 101, 45, 104, 101, 105, 103, 104, 116] ∨ n = [108, 105, 115, 116, 45, 115, 116, 121, 108, 101, 45, 116, 121, 112, 101] ∨ n = [109, 97, 114, 103, 105, 110] ∨ n = [109, 97, 114, 103, 105, 110, 45, 98, 111, 116, 116, 111, 109] ∨ n = [109, 97, 114, 103, 105, 110, 45, 108, 101, 102, 116] ∨ n = [109, 97, 114, 103, 105, 110, 45, 114, 105, 103, 104, 116] ∨ n = [109, 97, 114, 103, 105, 110, 45, 116, 111, 112] ∨ n = [109, 97, 120, 45, 119, 105, 100, 116, 104] ∨ n = [112, 97, 100, 100, 105, 110, 103] ∨ n = [112, 97, 100, 100, 105, 110, 103, 45, 98, 111, 116, 116, 111, 109] ∨ n = [112, 97, 100, 100, 105, 110, 103, 45, 108, 101, 102, 116] ∨ n = [112, 97, 100, 100, 105, 110, 103, 45, 114, 105, 103, 104, 116] ∨ n = [112, 97, 100, 100, 105, 110, 103, 45, 116, 111, 112] ∨ n = [116, 101, 120, 116, 45, 97, 108, 105, 103, 110] ∨ n = [116, 101, 120, 116, 45, 100, 101, 99, 111, 114, 97, 116, 105, 111, 110] ∨ n = [116, 101, 120, 116, 45, 105, 110, 100, 101, 110, 116] ∨ n = [116, 101, 120, 116, 45, 116, 114, 97, 110, 115, 102, 111, 114, 109] ∨ n = [118, 101, 114, 116, 105, 99, 97, 108, 45, 97, 108, 105, 103, 110] ∨ n = [119, 104, 105, 116, 101, 45, 115, 112, 97, 99, 101] ∨ n = [119, 105, 100, 116, 104] := by
  simpa [cssNames] using h
theorem names_none (n : List UInt8) (h : cssNames.contains n = false) : n ≠ [98, 97, 99, 107, 103, 114, 111, 117, 110, 100, 45, 99, 111, 108, 111, 114] ∧ n ≠ [98, 111, 114, 100, 101, 114] ∧ n ≠ [98, 111, 114, 100, 101, 114, 45, 98, 111, 116, 116, 111, 109] ∧ n ≠ [98, 111, 114, 100, 101, 114, 45, 99, 111, 108, 108, 97, 112, 115, 101] ∧ n ≠ [98, 111, 114, 100, 101, 114, 45, 99, 111, 108, 111, 114] ∧ n ≠ [98, 111, 114, 100, 101, 114, 45, 108, 101, 102, 116] ∧ n ≠ [98, 111, 114, 100, 101, 114, 45, 114, 105, 103, 104, 116] ∧ n ≠ [98, 111, 114, 100, 101, 114, 45, 115, 112, 97, 99, 105, 110, 103] ∧ n ≠ [98, 111, 114, 100, 101, 114, 45, 115, 116, 121, 108, 101] ∧ n ≠ [98, 111, 114, 100, 101, 114, 45, 116, 111, 112] ∧ n ≠ [98, 111, 114, 100, 101, 114, 45, 119, 105, 100, 116, 104] ∧ n ≠ [99, 111, 108, 111, 114] ∧ n ≠ [100, 105, 114, 101, 99, 116, 105, 111, 110] ∧ n ≠ [102, 111, 110, 116, 45, 115, 105, 122, 101] ∧ n ≠ [102, 111, 110, 116, 45, 115, 116, 121, 108, 101] ∧ n ≠ [102, 111, 110, 116, 45, 119, 101, 105, 103, 104, 116] ∧ n ≠ [104, 101, 105, 103, 104, 116] ∧ n ≠ [108, 101, 116, 116, 101, 114, 45, 115, 112, 97, 99, 105, 110, 103] ∧ n ≠ [108, 105, 110, 101, 45, 104, 101, 105, 103, 104, 116] ∧ n ≠ [108, 105, 115, 116, 45, 115, 116, 121, 108, 101, 45, 116, 121, 112, 101] ∧ n ≠ [109, 97, 114, 103, 105, 110] ∧ n ≠ [109, 97, 114, 103, 105, 110, 45, 98, 111, 116, 116, 111, 109] ∧ n ≠ [109, 97, 114, 103, 105, 110, 45, 108, 101, 102, 116] ∧ n ≠ [109, 97, 114, 103, 105, 110, 45, 114, 105, 103, 104, 116] ∧ n ≠ [109, 97, 114, 103, 105, 110, 45, 116, 111, 112] ∧ n ≠ [109, 97, 120, 45, 119, 105, 100, 116, 104] ∧ n ≠ [112, 97, 100, 100, 105, 110, 103] ∧ n ≠ [112, 97, 100, 100, 105, 110, 103, 45, 98, 111, 116, 116, 111, 109] ∧ n ≠ [112, 97, 100, 100, 105, 110, 103, 45, 108, 101, 102, 116] ∧ n ≠ [112, 97, 100, 100, 105, 110, 103, 45, 114, 105, 103, 104, 116] ∧ n ≠ [112, 97, 100, 100, 105, 110, 103, 45, 116, 111, 112] ∧ n ≠ [116, 101, 120, 116, 45, 97, 108, 105, 103, 110] ∧ n ≠ [116, 101, 120, 116, 45, 100, 101, 99, 111, 114, 97, 116, 105, 111, 110] ∧ n ≠ [116, 101, 120, 116, 45, 105, 110, 100, 101, 110, 116] ∧ n ≠ [116, 101, 120, 116, 45, 116, 114, 97, 110, 115, 102, 111, 114, 109] ∧ n ≠ [118, 101, 114, 116, 105, 99, 97, 108, 45, 97, 108, 105, 103, 110] ∧ n ≠ [119, 104, 105, 116, 101, 45, 115, 112, 97, 99, 101] ∧ n ≠ [119, 105, 100, 116, 104] := by
  simpa [cssNames] using h
theorem all_snoc {v : ByteArray} {k : Nat} (h : k < v.size) (f : UInt8 → Bool) (h1 : (v.data.toList.take k).all f = true) (h2 : f v[k] = true) : (v.data.toList.take (k + 1)).all f = true := by
  rw [take_snoc v k h, List.all_append, h1]; simp [h2]
theorem all_bad {v : ByteArray} {k : Nat} (h : k < v.size) (f : UInt8 → Bool) (h2 : f v[k] = false) : v.data.toList.all f = false := by
  have hm : v[k] ∈ v.data.toList := by rw [← Array.mem_def]; exact Array.getElem_mem (by exact h)
  cases e : v.data.toList.all f with
  | false => rfl
  | true => rw [List.all_eq_true] at e; rw [e _ hm] at h2; cases h2
set_option maxHeartbeats 8000000 in
theorem ref17Safe_any (n v : ByteArray) (w : World) (hv : v.size ≤ 1048576) :
    Calls Tryz.prog 43 #[.string n, .string v] w fun e w' => e = .returned (.bool (safeD (n.data.toList, v.data.toList))) ∧ w = w' := by
  cases hk : cssNames.contains n.data.toList with
  | false =>
    have HB : Hid (safeD (n.data.toList, v.data.toList) = false) := hide (by unfold safeD; simp only; rw [hk]; rfl)
    obtain ⟨n0, n1, n2, n3, n4, n5, n6, n7, n8, n9, n10, n11, n12, n13, n14, n15, n16, n17, n18, n19, n20, n21, n22, n23, n24, n25, n26, n27, n28, n29, n30, n31, n32, n33, n34, n35, n36, n37⟩ := names_none _ hk
    have t0 : (n.toList == [98, 97, 99, 107, 103, 114, 111, 117, 110, 100, 45, 99, 111, 108, 111, 114]) = false := beq_eq_false_iff_ne.2 (by rw [bytes_list]; exact n0)
    have t1 : (n.toList == [98, 111, 114, 100, 101, 114]) = false := beq_eq_false_iff_ne.2 (by rw [bytes_list]; exact n1)
    have t2 : (n.toList == [98, 111, 114, 100, 101, 114, 45, 98, 111, 116, 116, 111, 109]) = false := beq_eq_false_iff_ne.2 (by rw [bytes_list]; exact n2)
    have t3 : (n.toList == [98, 111, 114, 100, 101, 114, 45, 99, 111, 108, 108, 97, 112, 115, 101]) = false := beq_eq_false_iff_ne.2 (by rw [bytes_list]; exact n3)
    have t4 : (n.toList == [98, 111, 114, 100, 101, 114, 45, 99, 111, 108, 111, 114]) = false := beq_eq_false_iff_ne.2 (by rw [bytes_list]; exact n4)
    have t5 : (n.toList == [98, 111, 114, 100, 101, 114, 45, 108, 101, 102, 116]) = false := beq_eq_false_iff_ne.2 (by rw [bytes_list]; exact n5)
    have t6 : (n.toList == [98, 111, 114, 100, 101, 114, 45, 114, 105, 103, 104, 116]) = false := beq_eq_false_iff_ne.2 (by rw [bytes_list]; exact n6)
    have t7 : (n.toList == [98, 111, 114, 100, 101, 114, 45, 115, 112, 97, 99, 105, 110, 103]) = false := beq_eq_false_iff_ne.2 (by rw [bytes_list]; exact n7)
    have t8 : (n.toList == [98, 111, 114, 100, 101, 114, 45, 115, 116, 121, 108, 101]) = false := beq_eq_false_iff_ne.2 (by rw [bytes_list]; exact n8)
    have t9 : (n.toList == [98, 111, 114, 100, 101, 114, 45, 116, 111, 112]) = false := beq_eq_false_iff_ne.2 (by rw [bytes_list]; exact n9)
    have t10 : (n.toList == [98, 111, 114, 100, 101, 114, 45, 119, 105, 100, 116, 104]) = false := beq_eq_false_iff_ne.2 (by rw [bytes_list]; exact n10)
    have t11 : (n.toList == [99, 111, 108, 111, 114]) = false := beq_eq_false_iff_ne.2 (by rw [bytes_list]; exact n11)
    have t12 : (n.toList == [100, 105, 114, 101, 99, 116, 105, 111, 110]) = false := beq_eq_false_iff_ne.2 (by rw [bytes_list]; exact n12)
    have t13 : (n.toList == [102, 111, 110, 116, 45, 115, 105, 122, 101]) = false := beq_eq_false_iff_ne.2 (by rw [bytes_list]; exact n13)
    have t14 : (n.toList == [102, 111, 110, 116, 45, 115, 116, 121, 108, 101]) = false := beq_eq_false_iff_ne.2 (by rw [bytes_list]; exact n14)
    have t15 : (n.toList == [102, 111, 110, 116, 45, 119, 101, 105, 103, 104, 116]) = false := beq_eq_false_iff_ne.2 (by rw [bytes_list]; exact n15)
    have t16 : (n.toList == [104, 101, 105, 103, 104, 116]) = false := beq_eq_false_iff_ne.2 (by rw [bytes_list]; exact n16)
    have t17 : (n.toList == [108, 101, 116, 116, 101, 114, 45, 115, 112, 97, 99, 105, 110, 103]) = false := beq_eq_false_iff_ne.2 (by rw [bytes_list]; exact n17)
    have t18 : (n.toList == [108, 105, 110, 101, 45, 104, 101, 105, 103, 104, 116]) = false := beq_eq_false_iff_ne.2 (by rw [bytes_list]; exact n18)
    have t19 : (n.toList == [108, 105, 115, 116, 45, 115, 116, 121, 108, 101, 45, 116, 121, 112, 101]) = false := beq_eq_false_iff_ne.2 (by rw [bytes_list]; exact n19)
    have t20 : (n.toList == [109, 97, 114, 103, 105, 110]) = false := beq_eq_false_iff_ne.2 (by rw [bytes_list]; exact n20)
    have t21 : (n.toList == [109, 97, 114, 103, 105, 110, 45, 98, 111, 116, 116, 111, 109]) = false := beq_eq_false_iff_ne.2 (by rw [bytes_list]; exact n21)
    have t22 : (n.toList == [109, 97, 114, 103, 105, 110, 45, 108, 101, 102, 116]) = false := beq_eq_false_iff_ne.2 (by rw [bytes_list]; exact n22)
    have t23 : (n.toList == [109, 97, 114, 103, 105, 110, 45, 114, 105, 103, 104, 116]) = false := beq_eq_false_iff_ne.2 (by rw [bytes_list]; exact n23)
    have t24 : (n.toList == [109, 97, 114, 103, 105, 110, 45, 116, 111, 112]) = false := beq_eq_false_iff_ne.2 (by rw [bytes_list]; exact n24)
    have t25 : (n.toList == [109, 97, 120, 45, 119, 105, 100, 116, 104]) = false := beq_eq_false_iff_ne.2 (by rw [bytes_list]; exact n25)
    have t26 : (n.toList == [112, 97, 100, 100, 105, 110, 103]) = false := beq_eq_false_iff_ne.2 (by rw [bytes_list]; exact n26)
    have t27 : (n.toList == [112, 97, 100, 100, 105, 110, 103, 45, 98, 111, 116, 116, 111, 109]) = false := beq_eq_false_iff_ne.2 (by rw [bytes_list]; exact n27)
    have t28 : (n.toList == [112, 97, 100, 100, 105, 110, 103, 45, 108, 101, 102, 116]) = false := beq_eq_false_iff_ne.2 (by rw [bytes_list]; exact n28)
    have t29 : (n.toList == [112, 97, 100, 100, 105, 110, 103, 45, 114, 105, 103, 104, 116]) = false := beq_eq_false_iff_ne.2 (by rw [bytes_list]; exact n29)
    have t30 : (n.toList == [112, 97, 100, 100, 105, 110, 103, 45, 116, 111, 112]) = false := beq_eq_false_iff_ne.2 (by rw [bytes_list]; exact n30)
    have t31 : (n.toList == [116, 101, 120, 116, 45, 97, 108, 105, 103, 110]) = false := beq_eq_false_iff_ne.2 (by rw [bytes_list]; exact n31)
    have t32 : (n.toList == [116, 101, 120, 116, 45, 100, 101, 99, 111, 114, 97, 116, 105, 111, 110]) = false := beq_eq_false_iff_ne.2 (by rw [bytes_list]; exact n32)
    have t33 : (n.toList == [116, 101, 120, 116, 45, 105, 110, 100, 101, 110, 116]) = false := beq_eq_false_iff_ne.2 (by rw [bytes_list]; exact n33)
    have t34 : (n.toList == [116, 101, 120, 116, 45, 116, 114, 97, 110, 115, 102, 111, 114, 109]) = false := beq_eq_false_iff_ne.2 (by rw [bytes_list]; exact n34)
    have t35 : (n.toList == [118, 101, 114, 116, 105, 99, 97, 108, 45, 97, 108, 105, 103, 110]) = false := beq_eq_false_iff_ne.2 (by rw [bytes_list]; exact n35)
    have t36 : (n.toList == [119, 104, 105, 116, 101, 45, 115, 112, 97, 99, 101]) = false := beq_eq_false_iff_ne.2 (by rw [bytes_list]; exact n36)
    have t37 : (n.toList == [119, 105, 100, 116, 104]) = false := beq_eq_false_iff_ne.2 (by rw [bytes_list]; exact n37)
    clear hk n0 n1 n2 n3 n4 n5 n6 n7 n8 n9 n10 n11 n12 n13 n14 n15 n16 n17 n18 n19 n20 n21 n22 n23 n24 n25 n26 n27 n28 n29 n30 n31 n32 n33 n34 n35 n36 n37
    go_enter Tryz.func43, Tryz.ntmps43
    go_wp2_with fail
    go_ret
    exact ⟨ret_bool HB.out.symm, rfl⟩
  | true =>
    have HB : Hid (safeD (n.data.toList, v.data.toList) = (!v.data.toList.isEmpty && (decide (v.data.toList.length ≤ 100) && v.data.toList.all (markB cssMarks)))) := hide (by unfold safeD; simp only; rw [hk]; rfl)
    have HK := hide hk
    clear hk
    go_enter Tryz.func43, Tryz.ntmps43
    go_upto_block 0 with (fail)
    go_cut [7] (fun s7 wx => wx = w)
    case first =>
      rcases names_cases _ HK.out with h | h | h | h | h | h | h | h | h | h | h | h | h | h | h | h | h | h | h | h | h | h | h | h | h | h | h | h | h | h | h | h | h | h | h | h | h | h
      · obtain rfl : n = ⟨#[98, 97, 99, 107, 103, 114, 111, 117, 110, 100, 45, 99, 111, 108, 111, 114]⟩ := ext_list h
        clear h
        go_wp2_with fail
        go_meet
        exact rfl
      · obtain rfl : n = ⟨#[98, 111, 114, 100, 101, 114]⟩ := ext_list h
        clear h
        go_wp2_with fail
        go_meet
        exact rfl
      · obtain rfl : n = ⟨#[98, 111, 114, 100, 101, 114, 45, 98, 111, 116, 116, 111, 109]⟩ := ext_list h
        clear h
        go_wp2_with fail
        go_meet
        exact rfl
      · obtain rfl : n = ⟨#[98, 111, 114, 100, 101, 114, 45, 99, 111, 108, 108, 97, 112, 115, 101]⟩ := ext_list h
        clear h
        go_wp2_with fail
        go_meet
        exact rfl
      · obtain rfl : n = ⟨#[98, 111, 114, 100, 101, 114, 45, 99, 111, 108, 111, 114]⟩ := ext_list h
        clear h
        go_wp2_with fail
        go_meet
        exact rfl
      · obtain rfl : n = ⟨#[98, 111, 114, 100, 101, 114, 45, 108, 101, 102, 116]⟩ := ext_list h
        clear h
        go_wp2_with fail
        go_meet
        exact rfl
      · obtain rfl : n = ⟨#[98, 111, 114, 100, 101, 114, 45, 114, 105, 103, 104, 116]⟩ := ext_list h
        clear h
        go_wp2_with fail
        go_meet
        exact rfl
      · obtain rfl : n = ⟨#[98, 111, 114, 100, 101, 114, 45, 115, 112, 97, 99, 105, 110, 103]⟩ := ext_list h
        clear h
        go_wp2_with fail
        go_meet
        exact rfl
      · obtain rfl : n = ⟨#[98, 111, 114, 100, 101, 114, 45, 115, 116, 121, 108, 101]⟩ := ext_list h
        clear h
        go_wp2_with fail
        go_meet
        exact rfl
      · obtain rfl : n = ⟨#[98, 111, 114, 100, 101, 114, 45, 116, 111, 112]⟩ := ext_list h
        clear h
        go_wp2_with fail
        go_meet
        exact rfl
      · obtain rfl : n = ⟨#[98, 111, 114, 100, 101, 114, 45, 119, 105, 100, 116, 104]⟩ := ext_list h
        clear h
        go_wp2_with fail
        go_meet
        exact rfl
      · obtain rfl : n = ⟨#[99, 111, 108, 111, 114]⟩ := ext_list h
        clear h
        go_wp2_with fail
        go_meet
        exact rfl
      · obtain rfl : n = ⟨#[100, 105, 114, 101, 99, 116, 105, 111, 110]⟩ := ext_list h
        clear h
        go_wp2_with fail
        go_meet
        exact rfl
      · obtain rfl : n = ⟨#[102, 111, 110, 116, 45, 115, 105, 122, 101]⟩ := ext_list h
        clear h
        go_wp2_with fail
        go_meet
        exact rfl
      · obtain rfl : n = ⟨#[102, 111, 110, 116, 45, 115, 116, 121, 108, 101]⟩ := ext_list h
        clear h
        go_wp2_with fail
        go_meet
        exact rfl
      · obtain rfl : n = ⟨#[102, 111, 110, 116, 45, 119, 101, 105, 103, 104, 116]⟩ := ext_list h
        clear h
        go_wp2_with fail
        go_meet
        exact rfl
      · obtain rfl : n = ⟨#[104, 101, 105, 103, 104, 116]⟩ := ext_list h
        clear h
        go_wp2_with fail
        go_meet
        exact rfl
      · obtain rfl : n = ⟨#[108, 101, 116, 116, 101, 114, 45, 115, 112, 97, 99, 105, 110, 103]⟩ := ext_list h
        clear h
        go_wp2_with fail
        go_meet
        exact rfl
      · obtain rfl : n = ⟨#[108, 105, 110, 101, 45, 104, 101, 105, 103, 104, 116]⟩ := ext_list h
        clear h
        go_wp2_with fail
        go_meet
        exact rfl
      · obtain rfl : n = ⟨#[108, 105, 115, 116, 45, 115, 116, 121, 108, 101, 45, 116, 121, 112, 101]⟩ := ext_list h
        clear h
        go_wp2_with fail
        go_meet
        exact rfl
      · obtain rfl : n = ⟨#[109, 97, 114, 103, 105, 110]⟩ := ext_list h
        clear h
        go_wp2_with fail
        go_meet
        exact rfl
      · obtain rfl : n = ⟨#[109, 97, 114, 103, 105, 110, 45, 98, 111, 116, 116, 111, 109]⟩ := ext_list h
        clear h
        go_wp2_with fail
        go_meet
        exact rfl
      · obtain rfl : n = ⟨#[109, 97, 114, 103, 105, 110, 45, 108, 101, 102, 116]⟩ := ext_list h
        clear h
        go_wp2_with fail
        go_meet
        exact rfl
      · obtain rfl : n = ⟨#[109, 97, 114, 103, 105, 110, 45, 114, 105, 103, 104, 116]⟩ := ext_list h
        clear h
        go_wp2_with fail
        go_meet
        exact rfl
      · obtain rfl : n = ⟨#[109, 97, 114, 103, 105, 110, 45, 116, 111, 112]⟩ := ext_list h
        clear h
        go_wp2_with fail
        go_meet
        exact rfl
      · obtain rfl : n = ⟨#[109, 97, 120, 45, 119, 105, 100, 116, 104]⟩ := ext_list h
        clear h
        go_wp2_with fail
        go_meet
        exact rfl
      · obtain rfl : n = ⟨#[112, 97, 100, 100, 105, 110, 103]⟩ := ext_list h
        clear h
        go_wp2_with fail
        go_meet
        exact rfl
      · obtain rfl : n = ⟨#[112, 97, 100, 100, 105, 110, 103, 45, 98, 111, 116, 116, 111, 109]⟩ := ext_list h
        clear h
        go_wp2_with fail
        go_meet
        exact rfl
      · obtain rfl : n = ⟨#[112, 97, 100, 100, 105, 110, 103, 45, 108, 101, 102, 116]⟩ := ext_list h
        clear h
        go_wp2_with fail
        go_meet
        exact rfl
      · obtain rfl : n = ⟨#[112, 97, 100, 100, 105, 110, 103, 45, 114, 105, 103, 104, 116]⟩ := ext_list h
        clear h
        go_wp2_with fail
        go_meet
        exact rfl
      · obtain rfl : n = ⟨#[112, 97, 100, 100, 105, 110, 103, 45, 116, 111, 112]⟩ := ext_list h
        clear h
        go_wp2_with fail
        go_meet
        exact rfl
      · obtain rfl : n = ⟨#[116, 101, 120, 116, 45, 97, 108, 105, 103, 110]⟩ := ext_list h
        clear h
        go_wp2_with fail
        go_meet
        exact rfl
      · obtain rfl : n = ⟨#[116, 101, 120, 116, 45, 100, 101, 99, 111, 114, 97, 116, 105, 111, 110]⟩ := ext_list h
        clear h
        go_wp2_with fail
        go_meet
        exact rfl
      · obtain rfl : n = ⟨#[116, 101, 120, 116, 45, 105, 110, 100, 101, 110, 116]⟩ := ext_list h
        clear h
        go_wp2_with fail
        go_meet
        exact rfl
      · obtain rfl : n = ⟨#[116, 101, 120, 116, 45, 116, 114, 97, 110, 115, 102, 111, 114, 109]⟩ := ext_list h
        clear h
        go_wp2_with fail
        go_meet
        exact rfl
      · obtain rfl : n = ⟨#[118, 101, 114, 116, 105, 99, 97, 108, 45, 97, 108, 105, 103, 110]⟩ := ext_list h
        clear h
        go_wp2_with fail
        go_meet
        exact rfl
      · obtain rfl : n = ⟨#[119, 104, 105, 116, 101, 45, 115, 112, 97, 99, 101]⟩ := ext_list h
        clear h
        go_wp2_with fail
        go_meet
        exact rfl
      · obtain rfl : n = ⟨#[119, 105, 100, 116, 104]⟩ := ext_list h
        clear h
        go_wp2_with fail
        go_meet
        exact rfl
    rename_i wc
    subst_vars
    have hlen : v.data.toList.length = v.size := toList_length v
    rcases Nat.eq_zero_or_pos v.size with h0 | h0
    · have t0 : decide ((v.size : Int) < 1) = true := decide_eq_true (by omega)
      have HR : Hid (safeD (n.data.toList, v.data.toList) = false) := hide (by
        rw [HB.out, List.eq_nil_of_length_eq_zero (hlen.trans h0)]; rfl)
      clear h0 hlen
      go_wp2_with fail
      go_ret
      exact ⟨ret_bool HR.out.symm, rfl⟩
    · have t0 : decide ((v.size : Int) < 1) = false := decide_eq_false (by omega)
      have hne : v.data.toList.isEmpty = false := by
        cases e : v.data.toList with
        | nil => rw [e] at hlen; simp at hlen; omega
        | cons a r => rfl
      by_cases h100 : 100 < v.size
      · have t1 : decide ((100 : Int) < v.size) = true := decide_eq_true (by omega)
        have HR : Hid (safeD (n.data.toList, v.data.toList) = false) := hide (by
          rw [HB.out, decide_eq_false (by omega)]; simp)
        clear h0 hlen hne h100
        go_wp2_with fail
        go_ret
        exact ⟨ret_bool HR.out.symm, rfl⟩
      · have t1 : decide ((100 : Int) < v.size) = false := decide_eq_false (by omega)
        have HR : Hid (safeD (n.data.toList, v.data.toList) = v.data.toList.all (markB cssMarks)) := hide (by
          rw [HB.out, decide_eq_true (by omega), hne]; rfl)
        clear h0 hlen hne h100
        go_wp2_with fail
        go_loop [5] (fun i => ∃ k : Nat, k ≤ v.size ∧ i = .int .i64 k ∧ Hid ((v.data.toList.take k).all (markB cssMarks) = true)) (fun i => v.size - (intOf i).toNat)
        case atStart => exact ⟨0, Nat.zero_le _, rfl, hide rfl⟩
        case round =>
          obtain ⟨k, hk, rfl, HG⟩ := hrel
          by_cases hlt : k < v.size
          · rcases mark_cases v[k] with (h | h | h | h | h | h | h | h) | ⟨m32, m35, m46, m37, m44, m45, m43, m33, hmk⟩
            · have q32 := tT 32 (c := v[k]) h (by decide)
              have HN : Hid ((v.data.toList.take (k + 1)).all (markB cssMarks) = true) := hide (all_snoc hlt _ HG.out (by rw [h]; decide +kernel))
              clear h
              go_wp2_with fail
              go_round
              case rel => exact ⟨k + 1, by omega, by go_num, HN⟩
              case measure => simp [intOf]; omega
            · have q32 := tF 32 (c := v[k]) (by rw [h]; decide) (by decide)
              have q35 := tT 35 (c := v[k]) h (by decide)
              have HN : Hid ((v.data.toList.take (k + 1)).all (markB cssMarks) = true) := hide (all_snoc hlt _ HG.out (by rw [h]; decide +kernel))
              clear h
              go_wp2_with fail
              go_round
              case rel => exact ⟨k + 1, by omega, by go_num, HN⟩
              case measure => simp [intOf]; omega
            · have q32 := tF 32 (c := v[k]) (by rw [h]; decide) (by decide)
              have q35 := tF 35 (c := v[k]) (by rw [h]; decide) (by decide)
              have q46 := tT 46 (c := v[k]) h (by decide)
              have HN : Hid ((v.data.toList.take (k + 1)).all (markB cssMarks) = true) := hide (all_snoc hlt _ HG.out (by rw [h]; decide +kernel))
              clear h
              go_wp2_with fail
              go_round
              case rel => exact ⟨k + 1, by omega, by go_num, HN⟩
              case measure => simp [intOf]; omega
            · have q32 := tF 32 (c := v[k]) (by rw [h]; decide) (by decide)
              have q35 := tF 35 (c := v[k]) (by rw [h]; decide) (by decide)
              have q46 := tF 46 (c := v[k]) (by rw [h]; decide) (by decide)
              have q37 := tT 37 (c := v[k]) h (by decide)
              have HN : Hid ((v.data.toList.take (k + 1)).all (markB cssMarks) = true) := hide (all_snoc hlt _ HG.out (by rw [h]; decide +kernel))
              clear h
              go_wp2_with fail
              go_round
              case rel => exact ⟨k + 1, by omega, by go_num, HN⟩
              case measure => simp [intOf]; omega
            · have q32 := tF 32 (c := v[k]) (by rw [h]; decide) (by decide)
              have q35 := tF 35 (c := v[k]) (by rw [h]; decide) (by decide)
              have q46 := tF 46 (c := v[k]) (by rw [h]; decide) (by decide)
              have q37 := tF 37 (c := v[k]) (by rw [h]; decide) (by decide)
              have q44 := tT 44 (c := v[k]) h (by decide)
              have HN : Hid ((v.data.toList.take (k + 1)).all (markB cssMarks) = true) := hide (all_snoc hlt _ HG.out (by rw [h]; decide +kernel))
              clear h
              go_wp2_with fail
              go_round
              case rel => exact ⟨k + 1, by omega, by go_num, HN⟩
              case measure => simp [intOf]; omega
            · have q32 := tF 32 (c := v[k]) (by rw [h]; decide) (by decide)
              have q35 := tF 35 (c := v[k]) (by rw [h]; decide) (by decide)
              have q46 := tF 46 (c := v[k]) (by rw [h]; decide) (by decide)
              have q37 := tF 37 (c := v[k]) (by rw [h]; decide) (by decide)
              have q44 := tF 44 (c := v[k]) (by rw [h]; decide) (by decide)
              have q45 := tT 45 (c := v[k]) h (by decide)
              have HN : Hid ((v.data.toList.take (k + 1)).all (markB cssMarks) = true) := hide (all_snoc hlt _ HG.out (by rw [h]; decide +kernel))
              clear h
              go_wp2_with fail
              go_round
              case rel => exact ⟨k + 1, by omega, by go_num, HN⟩
              case measure => simp [intOf]; omega
            · have q32 := tF 32 (c := v[k]) (by rw [h]; decide) (by decide)
              have q35 := tF 35 (c := v[k]) (by rw [h]; decide) (by decide)
              have q46 := tF 46 (c := v[k]) (by rw [h]; decide) (by decide)
              have q37 := tF 37 (c := v[k]) (by rw [h]; decide) (by decide)
              have q44 := tF 44 (c := v[k]) (by rw [h]; decide) (by decide)
              have q45 := tF 45 (c := v[k]) (by rw [h]; decide) (by decide)
              have q43 := tT 43 (c := v[k]) h (by decide)
              have HN : Hid ((v.data.toList.take (k + 1)).all (markB cssMarks) = true) := hide (all_snoc hlt _ HG.out (by rw [h]; decide +kernel))
              clear h
              go_wp2_with fail
              go_round
              case rel => exact ⟨k + 1, by omega, by go_num, HN⟩
              case measure => simp [intOf]; omega
            · have q32 := tF 32 (c := v[k]) (by rw [h]; decide) (by decide)
              have q35 := tF 35 (c := v[k]) (by rw [h]; decide) (by decide)
              have q46 := tF 46 (c := v[k]) (by rw [h]; decide) (by decide)
              have q37 := tF 37 (c := v[k]) (by rw [h]; decide) (by decide)
              have q44 := tF 44 (c := v[k]) (by rw [h]; decide) (by decide)
              have q45 := tF 45 (c := v[k]) (by rw [h]; decide) (by decide)
              have q43 := tF 43 (c := v[k]) (by rw [h]; decide) (by decide)
              have q33 := tT 33 (c := v[k]) h (by decide)
              have HN : Hid ((v.data.toList.take (k + 1)).all (markB cssMarks) = true) := hide (all_snoc hlt _ HG.out (by rw [h]; decide +kernel))
              clear h
              go_wp2_with fail
              go_round
              case rel => exact ⟨k + 1, by omega, by go_num, HN⟩
              case measure => simp [intOf]; omega
            · have q32 := tF 32 m32 (by decide)
              have q35 := tF 35 m35 (by decide)
              have q46 := tF 46 m46 (by decide)
              have q37 := tF 37 m37 (by decide)
              have q44 := tF 44 m44 (by decide)
              have q45 := tF 45 m45 (by decide)
              have q43 := tF 43 m43 (by decide)
              have q33 := tF 33 m33 (by decide)
              have HMK := hide hmk
              clear hmk m32 m35 m46 m37 m44 m45 m43 m33
              cases hl : letterB v[k] with
              | true =>
                have HL := hide hl
                have HN : Hid ((v.data.toList.take (k + 1)).all (markB cssMarks) = true) := hide (all_snoc hlt _ HG.out (by rw [HMK.out, hl]; rfl))
                clear hl
                go_wp2_with fail
                refine (letter_any v[k] _).mono ?_
                rintro e w1 ⟨rfl, rfl⟩
                rw [HL.out]
                go_wp2_with fail
                go_round
                case rel => exact ⟨k + 1, by omega, by go_num, HN⟩
                case measure => simp [intOf]; omega
              | false =>
                have HL := hide hl
                cases hd : digitB v[k] with
                | true =>
                  have HD := hide hd
                  have HN : Hid ((v.data.toList.take (k + 1)).all (markB cssMarks) = true) := hide (all_snoc hlt _ HG.out (by rw [HMK.out, hl, hd]; rfl))
                  clear hl hd
                  go_wp2_with fail
                  refine (letter_any v[k] _).mono ?_
                  rintro e w1 ⟨rfl, rfl⟩
                  rw [HL.out]
                  go_wp2_with fail
                  refine (digit03_any v[k] _).mono ?_
                  rintro e w1 ⟨rfl, rfl⟩
                  rw [HD.out]
                  go_wp2_with fail
                  go_round
                  case rel => exact ⟨k + 1, by omega, by go_num, HN⟩
                  case measure => simp [intOf]; omega
                | false =>
                  have HD := hide hd
                  have HX : Hid (v.data.toList.all (markB cssMarks) = false) := hide (all_bad hlt _ (by rw [HMK.out, hl, hd]; rfl))
                  clear hl hd
                  go_wp2_with fail
                  refine (letter_any v[k] _).mono ?_
                  rintro e w1 ⟨rfl, rfl⟩
                  rw [HL.out]
                  go_wp2_with fail
                  refine (digit03_any v[k] _).mono ?_
                  rintro e w1 ⟨rfl, rfl⟩
                  rw [HD.out]
                  go_wp2_with fail
                  go_ret
                  exact ⟨ret_bool (HR.out.trans HX.out).symm, rfl⟩
          · have HX : Hid (v.data.toList.all (markB cssMarks) = true) := hide (by
              have := HG.out
              rwa [List.take_of_length_le (by rw [toList_length]; omega)] at this)
            go_wp2_with fail
            go_ret
            exact ⟨ret_bool (HR.out.trans HX.out).symm, rfl⟩
end Go.Proofs.YtklbdobofclofaaGreatDoor
