/- WALKS of the reference's Void, block, head, Closes (layer 14). Written by wip/tools/treenames.py. No statement is proved here. Own work of the verifier. -/
import Derived.Test.YtgokefodmjhhiaaGreatDoorBaseO
namespace Go.Proofs.YtgokefodmjhhiaaGreatDoor
open Go.RowKit
set_option linter.unusedVariables false
set_option linter.unusedSimpArgs false
set_option maxRecDepth 100000
set_option maxHeartbeats 8000000 in
theorem rvoid14_any (n : ByteArray) (w : World) : Calls Tryz.prog 33 #[.string n] w fun e w' => e = .returned (.bool (voidL.contains n.data.toList)) ∧ w = w' := by
  cases hk : voidL.contains n.data.toList with
  | true =>
    have hc : n.data.toList = [97, 114, 101, 97] ∨ n.data.toList = [98, 97, 115, 101] ∨ n.data.toList = [98, 114] ∨ n.data.toList = [99, 111, 108] ∨ n.data.toList = [101, 109, 98, 101, 100] ∨ n.data.toList = [104, 114] ∨ n.data.toList = [105, 109, 103] ∨ n.data.toList = [105, 110, 112, 117, 116] ∨ n.data.toList = [108, 105, 110, 107] ∨ n.data.toList = [109, 101, 116, 97] ∨ n.data.toList = [115, 111, 117, 114, 99, 101] ∨ n.data.toList = [116, 114, 97, 99, 107] ∨ n.data.toList = [119, 98, 114] := by simpa [voidL] using hk
    clear hk
    rcases hc with h | h | h | h | h | h | h | h | h | h | h | h | h
    · obtain rfl : n = ⟨#[97, 114, 101, 97]⟩ := ext_list h
      clear h
      go_enter Tryz.func33, Tryz.ntmps33
      go_wp2_with fail
      go_ret
      exact ⟨rfl, rfl⟩
    · obtain rfl : n = ⟨#[98, 97, 115, 101]⟩ := ext_list h
      clear h
      go_enter Tryz.func33, Tryz.ntmps33
      go_wp2_with fail
      go_ret
      exact ⟨rfl, rfl⟩
    · obtain rfl : n = ⟨#[98, 114]⟩ := ext_list h
      clear h
      go_enter Tryz.func33, Tryz.ntmps33
      go_wp2_with fail
      go_ret
      exact ⟨rfl, rfl⟩
    · obtain rfl : n = ⟨#[99, 111, 108]⟩ := ext_list h
      clear h
      go_enter Tryz.func33, Tryz.ntmps33
      go_wp2_with fail
      go_ret
      exact ⟨rfl, rfl⟩
    · obtain rfl : n = ⟨#[101, 109, 98, 101, 100]⟩ := ext_list h
      clear h
      go_enter Tryz.func33, Tryz.ntmps33
      go_wp2_with fail
      go_ret
      exact ⟨rfl, rfl⟩
    · obtain rfl : n = ⟨#[104, 114]⟩ := ext_list h
      clear h
      go_enter Tryz.func33, Tryz.ntmps33
      go_wp2_with fail
      go_ret
      exact ⟨rfl, rfl⟩
    · obtain rfl : n = ⟨#[105, 109, 103]⟩ := ext_list h
      clear h
      go_enter Tryz.func33, Tryz.ntmps33
      go_wp2_with fail
      go_ret
      exact ⟨rfl, rfl⟩
    · obtain rfl : n = ⟨#[105, 110, 112, 117, 116]⟩ := ext_list h
      clear h
      go_enter Tryz.func33, Tryz.ntmps33
      go_wp2_with fail
      go_ret
      exact ⟨rfl, rfl⟩
    · obtain rfl : n = ⟨#[108, 105, 110, 107]⟩ := ext_list h
      clear h
      go_enter Tryz.func33, Tryz.ntmps33
      go_wp2_with fail
      go_ret
      exact ⟨rfl, rfl⟩
    · obtain rfl : n = ⟨#[109, 101, 116, 97]⟩ := ext_list h
      clear h
      go_enter Tryz.func33, Tryz.ntmps33
      go_wp2_with fail
      go_ret
      exact ⟨rfl, rfl⟩
    · obtain rfl : n = ⟨#[115, 111, 117, 114, 99, 101]⟩ := ext_list h
      clear h
      go_enter Tryz.func33, Tryz.ntmps33
      go_wp2_with fail
      go_ret
      exact ⟨rfl, rfl⟩
    · obtain rfl : n = ⟨#[116, 114, 97, 99, 107]⟩ := ext_list h
      clear h
      go_enter Tryz.func33, Tryz.ntmps33
      go_wp2_with fail
      go_ret
      exact ⟨rfl, rfl⟩
    · obtain rfl : n = ⟨#[119, 98, 114]⟩ := ext_list h
      clear h
      go_enter Tryz.func33, Tryz.ntmps33
      go_wp2_with fail
      go_ret
      exact ⟨rfl, rfl⟩
  | false =>
    have hc : n.data.toList ≠ [97, 114, 101, 97] ∧ n.data.toList ≠ [98, 97, 115, 101] ∧ n.data.toList ≠ [98, 114] ∧ n.data.toList ≠ [99, 111, 108] ∧ n.data.toList ≠ [101, 109, 98, 101, 100] ∧ n.data.toList ≠ [104, 114] ∧ n.data.toList ≠ [105, 109, 103] ∧ n.data.toList ≠ [105, 110, 112, 117, 116] ∧ n.data.toList ≠ [108, 105, 110, 107] ∧ n.data.toList ≠ [109, 101, 116, 97] ∧ n.data.toList ≠ [115, 111, 117, 114, 99, 101] ∧ n.data.toList ≠ [116, 114, 97, 99, 107] ∧ n.data.toList ≠ [119, 98, 114] := by simpa [voidL] using hk
    clear hk
    obtain ⟨tn0, tn1, tn2, tn3, tn4, tn5, tn6, tn7, tn8, tn9, tn10, tn11, tn12⟩ := hc
    have t0 : (n.toList == [97, 114, 101, 97]) = false := beq_eq_false_iff_ne.2 (by rw [bytes_list]; exact tn0)
    have t1 : (n.toList == [98, 97, 115, 101]) = false := beq_eq_false_iff_ne.2 (by rw [bytes_list]; exact tn1)
    have t2 : (n.toList == [98, 114]) = false := beq_eq_false_iff_ne.2 (by rw [bytes_list]; exact tn2)
    have t3 : (n.toList == [99, 111, 108]) = false := beq_eq_false_iff_ne.2 (by rw [bytes_list]; exact tn3)
    have t4 : (n.toList == [101, 109, 98, 101, 100]) = false := beq_eq_false_iff_ne.2 (by rw [bytes_list]; exact tn4)
    have t5 : (n.toList == [104, 114]) = false := beq_eq_false_iff_ne.2 (by rw [bytes_list]; exact tn5)
    have t6 : (n.toList == [105, 109, 103]) = false := beq_eq_false_iff_ne.2 (by rw [bytes_list]; exact tn6)
    have t7 : (n.toList == [105, 110, 112, 117, 116]) = false := beq_eq_false_iff_ne.2 (by rw [bytes_list]; exact tn7)
    have t8 : (n.toList == [108, 105, 110, 107]) = false := beq_eq_false_iff_ne.2 (by rw [bytes_list]; exact tn8)
    have t9 : (n.toList == [109, 101, 116, 97]) = false := beq_eq_false_iff_ne.2 (by rw [bytes_list]; exact tn9)
    have t10 : (n.toList == [115, 111, 117, 114, 99, 101]) = false := beq_eq_false_iff_ne.2 (by rw [bytes_list]; exact tn10)
    have t11 : (n.toList == [116, 114, 97, 99, 107]) = false := beq_eq_false_iff_ne.2 (by rw [bytes_list]; exact tn11)
    have t12 : (n.toList == [119, 98, 114]) = false := beq_eq_false_iff_ne.2 (by rw [bytes_list]; exact tn12)
    clear tn0 tn1 tn2 tn3 tn4 tn5 tn6 tn7 tn8 tn9 tn10 tn11 tn12
    go_enter Tryz.func33, Tryz.ntmps33
    go_wp2_with fail
    go_ret
    exact ⟨rfl, rfl⟩
set_option maxHeartbeats 8000000 in
theorem rblock14_any (n : ByteArray) (w : World) : Calls Tryz.prog 71 #[.string n] w fun e w' => e = .returned (.bool (blockNL.contains n.data.toList)) ∧ w = w' := by
  cases hk : blockNL.contains n.data.toList with
  | true =>
    have hc : n.data.toList = [97, 100, 100, 114, 101, 115, 115] ∨ n.data.toList = [97, 114, 116, 105, 99, 108, 101] ∨ n.data.toList = [97, 115, 105, 100, 101] ∨ n.data.toList = [98, 108, 111, 99, 107, 113, 117, 111, 116, 101] ∨ n.data.toList = [99, 101, 110, 116, 101, 114] ∨ n.data.toList = [100, 101, 116, 97, 105, 108, 115] ∨ n.data.toList = [100, 105, 118] ∨ n.data.toList = [100, 108] ∨ n.data.toList = [102, 105, 101, 108, 100, 115, 101, 116] ∨ n.data.toList = [102, 105, 103, 117, 114, 101] ∨ n.data.toList = [102, 111, 111, 116, 101, 114] ∨ n.data.toList = [102, 111, 114, 109] ∨ n.data.toList = [104, 101, 97, 100, 101, 114] ∨ n.data.toList = [104, 114] ∨ n.data.toList = [108, 105] ∨ n.data.toList = [109, 97, 105, 110] ∨ n.data.toList = [110, 97, 118] ∨ n.data.toList = [111, 108] ∨ n.data.toList = [112] ∨ n.data.toList = [112, 114, 101] ∨ n.data.toList = [115, 101, 99, 116, 105, 111, 110] ∨ n.data.toList = [116, 97, 98, 108, 101] ∨ n.data.toList = [117, 108] ∨ n.data.toList = [100, 100] ∨ n.data.toList = [100, 116] ∨ n.data.toList = [104, 49] ∨ n.data.toList = [104, 50] ∨ n.data.toList = [104, 51] ∨ n.data.toList = [104, 52] ∨ n.data.toList = [104, 53] ∨ n.data.toList = [104, 54] := by simpa [blockNL] using hk
    clear hk
    rcases hc with h | h | h | h | h | h | h | h | h | h | h | h | h | h | h | h | h | h | h | h | h | h | h | h | h | h | h | h | h | h | h
    · obtain rfl : n = ⟨#[97, 100, 100, 114, 101, 115, 115]⟩ := ext_list h
      clear h
      go_enter Tryz.func71, Tryz.ntmps71
      go_wp2_with fail
      go_ret
      exact ⟨rfl, rfl⟩
    · obtain rfl : n = ⟨#[97, 114, 116, 105, 99, 108, 101]⟩ := ext_list h
      clear h
      go_enter Tryz.func71, Tryz.ntmps71
      go_wp2_with fail
      go_ret
      exact ⟨rfl, rfl⟩
    · obtain rfl : n = ⟨#[97, 115, 105, 100, 101]⟩ := ext_list h
      clear h
      go_enter Tryz.func71, Tryz.ntmps71
      go_wp2_with fail
      go_ret
      exact ⟨rfl, rfl⟩
    · obtain rfl : n = ⟨#[98, 108, 111, 99, 107, 113, 117, 111, 116, 101]⟩ := ext_list h
      clear h
      go_enter Tryz.func71, Tryz.ntmps71
      go_wp2_with fail
      go_ret
      exact ⟨rfl, rfl⟩
    · obtain rfl : n = ⟨#[99, 101, 110, 116, 101, 114]⟩ := ext_list h
      clear h
      go_enter Tryz.func71, Tryz.ntmps71
      go_wp2_with fail
      go_ret
      exact ⟨rfl, rfl⟩
    · obtain rfl : n = ⟨#[100, 101, 116, 97, 105, 108, 115]⟩ := ext_list h
      clear h
      go_enter Tryz.func71, Tryz.ntmps71
      go_wp2_with fail
      go_ret
      exact ⟨rfl, rfl⟩
    · obtain rfl : n = ⟨#[100, 105, 118]⟩ := ext_list h
      clear h
      go_enter Tryz.func71, Tryz.ntmps71
      go_wp2_with fail
      go_ret
      exact ⟨rfl, rfl⟩
    · obtain rfl : n = ⟨#[100, 108]⟩ := ext_list h
      clear h
      go_enter Tryz.func71, Tryz.ntmps71
      go_wp2_with fail
      go_ret
      exact ⟨rfl, rfl⟩
    · obtain rfl : n = ⟨#[102, 105, 101, 108, 100, 115, 101, 116]⟩ := ext_list h
      clear h
      go_enter Tryz.func71, Tryz.ntmps71
      go_wp2_with fail
      go_ret
      exact ⟨rfl, rfl⟩
    · obtain rfl : n = ⟨#[102, 105, 103, 117, 114, 101]⟩ := ext_list h
      clear h
      go_enter Tryz.func71, Tryz.ntmps71
      go_wp2_with fail
      go_ret
      exact ⟨rfl, rfl⟩
    · obtain rfl : n = ⟨#[102, 111, 111, 116, 101, 114]⟩ := ext_list h
      clear h
      go_enter Tryz.func71, Tryz.ntmps71
      go_wp2_with fail
      go_ret
      exact ⟨rfl, rfl⟩
    · obtain rfl : n = ⟨#[102, 111, 114, 109]⟩ := ext_list h
      clear h
      go_enter Tryz.func71, Tryz.ntmps71
      go_wp2_with fail
      go_ret
      exact ⟨rfl, rfl⟩
    · obtain rfl : n = ⟨#[104, 101, 97, 100, 101, 114]⟩ := ext_list h
      clear h
      go_enter Tryz.func71, Tryz.ntmps71
      go_wp2_with fail
      go_ret
      exact ⟨rfl, rfl⟩
    · obtain rfl : n = ⟨#[104, 114]⟩ := ext_list h
      clear h
      go_enter Tryz.func71, Tryz.ntmps71
      go_wp2_with fail
      go_ret
      exact ⟨rfl, rfl⟩
    · obtain rfl : n = ⟨#[108, 105]⟩ := ext_list h
      clear h
      go_enter Tryz.func71, Tryz.ntmps71
      go_wp2_with fail
      go_ret
      exact ⟨rfl, rfl⟩
    · obtain rfl : n = ⟨#[109, 97, 105, 110]⟩ := ext_list h
      clear h
      go_enter Tryz.func71, Tryz.ntmps71
      go_wp2_with fail
      go_ret
      exact ⟨rfl, rfl⟩
    · obtain rfl : n = ⟨#[110, 97, 118]⟩ := ext_list h
      clear h
      go_enter Tryz.func71, Tryz.ntmps71
      go_wp2_with fail
      go_ret
      exact ⟨rfl, rfl⟩
    · obtain rfl : n = ⟨#[111, 108]⟩ := ext_list h
      clear h
      go_enter Tryz.func71, Tryz.ntmps71
      go_wp2_with fail
      go_ret
      exact ⟨rfl, rfl⟩
    · obtain rfl : n = ⟨#[112]⟩ := ext_list h
      clear h
      go_enter Tryz.func71, Tryz.ntmps71
      go_wp2_with fail
      go_ret
      exact ⟨rfl, rfl⟩
    · obtain rfl : n = ⟨#[112, 114, 101]⟩ := ext_list h
      clear h
      go_enter Tryz.func71, Tryz.ntmps71
      go_wp2_with fail
      go_ret
      exact ⟨rfl, rfl⟩
    · obtain rfl : n = ⟨#[115, 101, 99, 116, 105, 111, 110]⟩ := ext_list h
      clear h
      go_enter Tryz.func71, Tryz.ntmps71
      go_wp2_with fail
      go_ret
      exact ⟨rfl, rfl⟩
    · obtain rfl : n = ⟨#[116, 97, 98, 108, 101]⟩ := ext_list h
      clear h
      go_enter Tryz.func71, Tryz.ntmps71
      go_wp2_with fail
      go_ret
      exact ⟨rfl, rfl⟩
    · obtain rfl : n = ⟨#[117, 108]⟩ := ext_list h
      clear h
      go_enter Tryz.func71, Tryz.ntmps71
      go_wp2_with fail
      go_ret
      exact ⟨rfl, rfl⟩
    · obtain rfl : n = ⟨#[100, 100]⟩ := ext_list h
      clear h
      go_enter Tryz.func71, Tryz.ntmps71
      go_wp2_with fail
      go_ret
      exact ⟨rfl, rfl⟩
    · obtain rfl : n = ⟨#[100, 116]⟩ := ext_list h
      clear h
      go_enter Tryz.func71, Tryz.ntmps71
      go_wp2_with fail
      go_ret
      exact ⟨rfl, rfl⟩
    · obtain rfl : n = ⟨#[104, 49]⟩ := ext_list h
      clear h
      go_enter Tryz.func71, Tryz.ntmps71
      go_wp2_with fail
      go_ret
      exact ⟨rfl, rfl⟩
    · obtain rfl : n = ⟨#[104, 50]⟩ := ext_list h
      clear h
      go_enter Tryz.func71, Tryz.ntmps71
      go_wp2_with fail
      go_ret
      exact ⟨rfl, rfl⟩
    · obtain rfl : n = ⟨#[104, 51]⟩ := ext_list h
      clear h
      go_enter Tryz.func71, Tryz.ntmps71
      go_wp2_with fail
      go_ret
      exact ⟨rfl, rfl⟩
    · obtain rfl : n = ⟨#[104, 52]⟩ := ext_list h
      clear h
      go_enter Tryz.func71, Tryz.ntmps71
      go_wp2_with fail
      go_ret
      exact ⟨rfl, rfl⟩
    · obtain rfl : n = ⟨#[104, 53]⟩ := ext_list h
      clear h
      go_enter Tryz.func71, Tryz.ntmps71
      go_wp2_with fail
      go_ret
      exact ⟨rfl, rfl⟩
    · obtain rfl : n = ⟨#[104, 54]⟩ := ext_list h
      clear h
      go_enter Tryz.func71, Tryz.ntmps71
      go_wp2_with fail
      go_ret
      exact ⟨rfl, rfl⟩
  | false =>
    have hc : n.data.toList ≠ [97, 100, 100, 114, 101, 115, 115] ∧ n.data.toList ≠ [97, 114, 116, 105, 99, 108, 101] ∧ n.data.toList ≠ [97, 115, 105, 100, 101] ∧ n.data.toList ≠ [98, 108, 111, 99, 107, 113, 117, 111, 116, 101] ∧ n.data.toList ≠ [99, 101, 110, 116, 101, 114] ∧ n.data.toList ≠ [100, 101, 116, 97, 105, 108, 115] ∧ n.data.toList ≠ [100, 105, 118] ∧ n.data.toList ≠ [100, 108] ∧ n.data.toList ≠ [102, 105, 101, 108, 100, 115, 101, 116] ∧ n.data.toList ≠ [102, 105, 103, 117, 114, 101] ∧ n.data.toList ≠ [102, 111, 111, 116, 101, 114] ∧ n.data.toList ≠ [102, 111, 114, 109] ∧ n.data.toList ≠ [104, 101, 97, 100, 101, 114] ∧ n.data.toList ≠ [104, 114] ∧ n.data.toList ≠ [108, 105] ∧ n.data.toList ≠ [109, 97, 105, 110] ∧ n.data.toList ≠ [110, 97, 118] ∧ n.data.toList ≠ [111, 108] ∧ n.data.toList ≠ [112] ∧ n.data.toList ≠ [112, 114, 101] ∧ n.data.toList ≠ [115, 101, 99, 116, 105, 111, 110] ∧ n.data.toList ≠ [116, 97, 98, 108, 101] ∧ n.data.toList ≠ [117, 108] ∧ n.data.toList ≠ [100, 100] ∧ n.data.toList ≠ [100, 116] ∧ n.data.toList ≠ [104, 49] ∧ n.data.toList ≠ [104, 50] ∧ n.data.toList ≠ [104, 51] ∧ n.data.toList ≠ [104, 52] ∧ n.data.toList ≠ [104, 53] ∧ n.data.toList ≠ [104, 54] := by simpa [blockNL] using hk
    clear hk
    obtain ⟨tn0, tn1, tn2, tn3, tn4, tn5, tn6, tn7, tn8, tn9, tn10, tn11, tn12, tn13, tn14, tn15, tn16, tn17, tn18, tn19, tn20, tn21, tn22, tn23, tn24, tn25, tn26, tn27, tn28, tn29, tn30⟩ := hc
    have t0 : (n.toList == [97, 100, 100, 114, 101, 115, 115]) = false := beq_eq_false_iff_ne.2 (by rw [bytes_list]; exact tn0)
    have t1 : (n.toList == [97, 114, 116, 105, 99, 108, 101]) = false := beq_eq_false_iff_ne.2 (by rw [bytes_list]; exact tn1)
    have t2 : (n.toList == [97, 115, 105, 100, 101]) = false := beq_eq_false_iff_ne.2 (by rw [bytes_list]; exact tn2)
    have t3 : (n.toList == [98, 108, 111, 99, 107, 113, 117, 111, 116, 101]) = false := beq_eq_false_iff_ne.2 (by rw [bytes_list]; exact tn3)
    have t4 : (n.toList == [99, 101, 110, 116, 101, 114]) = false := beq_eq_false_iff_ne.2 (by rw [bytes_list]; exact tn4)
    have t5 : (n.toList == [100, 101, 116, 97, 105, 108, 115]) = false := beq_eq_false_iff_ne.2 (by rw [bytes_list]; exact tn5)
    have t6 : (n.toList == [100, 105, 118]) = false := beq_eq_false_iff_ne.2 (by rw [bytes_list]; exact tn6)
    have t7 : (n.toList == [100, 108]) = false := beq_eq_false_iff_ne.2 (by rw [bytes_list]; exact tn7)
    have t8 : (n.toList == [102, 105, 101, 108, 100, 115, 101, 116]) = false := beq_eq_false_iff_ne.2 (by rw [bytes_list]; exact tn8)
    have t9 : (n.toList == [102, 105, 103, 117, 114, 101]) = false := beq_eq_false_iff_ne.2 (by rw [bytes_list]; exact tn9)
    have t10 : (n.toList == [102, 111, 111, 116, 101, 114]) = false := beq_eq_false_iff_ne.2 (by rw [bytes_list]; exact tn10)
    have t11 : (n.toList == [102, 111, 114, 109]) = false := beq_eq_false_iff_ne.2 (by rw [bytes_list]; exact tn11)
    have t12 : (n.toList == [104, 101, 97, 100, 101, 114]) = false := beq_eq_false_iff_ne.2 (by rw [bytes_list]; exact tn12)
    have t13 : (n.toList == [104, 114]) = false := beq_eq_false_iff_ne.2 (by rw [bytes_list]; exact tn13)
    have t14 : (n.toList == [108, 105]) = false := beq_eq_false_iff_ne.2 (by rw [bytes_list]; exact tn14)
    have t15 : (n.toList == [109, 97, 105, 110]) = false := beq_eq_false_iff_ne.2 (by rw [bytes_list]; exact tn15)
    have t16 : (n.toList == [110, 97, 118]) = false := beq_eq_false_iff_ne.2 (by rw [bytes_list]; exact tn16)
    have t17 : (n.toList == [111, 108]) = false := beq_eq_false_iff_ne.2 (by rw [bytes_list]; exact tn17)
    have t18 : (n.toList == [112]) = false := beq_eq_false_iff_ne.2 (by rw [bytes_list]; exact tn18)
    have t19 : (n.toList == [112, 114, 101]) = false := beq_eq_false_iff_ne.2 (by rw [bytes_list]; exact tn19)
    have t20 : (n.toList == [115, 101, 99, 116, 105, 111, 110]) = false := beq_eq_false_iff_ne.2 (by rw [bytes_list]; exact tn20)
    have t21 : (n.toList == [116, 97, 98, 108, 101]) = false := beq_eq_false_iff_ne.2 (by rw [bytes_list]; exact tn21)
    have t22 : (n.toList == [117, 108]) = false := beq_eq_false_iff_ne.2 (by rw [bytes_list]; exact tn22)
    have t23 : (n.toList == [100, 100]) = false := beq_eq_false_iff_ne.2 (by rw [bytes_list]; exact tn23)
    have t24 : (n.toList == [100, 116]) = false := beq_eq_false_iff_ne.2 (by rw [bytes_list]; exact tn24)
    have t25 : (n.toList == [104, 49]) = false := beq_eq_false_iff_ne.2 (by rw [bytes_list]; exact tn25)
    have t26 : (n.toList == [104, 50]) = false := beq_eq_false_iff_ne.2 (by rw [bytes_list]; exact tn26)
    have t27 : (n.toList == [104, 51]) = false := beq_eq_false_iff_ne.2 (by rw [bytes_list]; exact tn27)
    have t28 : (n.toList == [104, 52]) = false := beq_eq_false_iff_ne.2 (by rw [bytes_list]; exact tn28)
    have t29 : (n.toList == [104, 53]) = false := beq_eq_false_iff_ne.2 (by rw [bytes_list]; exact tn29)
    have t30 : (n.toList == [104, 54]) = false := beq_eq_false_iff_ne.2 (by rw [bytes_list]; exact tn30)
    clear tn0 tn1 tn2 tn3 tn4 tn5 tn6 tn7 tn8 tn9 tn10 tn11 tn12 tn13 tn14 tn15 tn16 tn17 tn18 tn19 tn20 tn21 tn22 tn23 tn24 tn25 tn26 tn27 tn28 tn29 tn30
    go_enter Tryz.func71, Tryz.ntmps71
    go_wp2_with fail
    go_ret
    exact ⟨rfl, rfl⟩
set_option maxHeartbeats 8000000 in
theorem rhead14_any (n : ByteArray) (w : World) : Calls Tryz.prog 72 #[.string n] w fun e w' => e = .returned (.bool (headNL.contains n.data.toList)) ∧ w = w' := by
  cases hk : headNL.contains n.data.toList with
  | true =>
    have hc : n.data.toList = [104, 49] ∨ n.data.toList = [104, 50] ∨ n.data.toList = [104, 51] ∨ n.data.toList = [104, 52] ∨ n.data.toList = [104, 53] ∨ n.data.toList = [104, 54] := by simpa [headNL] using hk
    clear hk
    rcases hc with h | h | h | h | h | h
    · obtain rfl : n = ⟨#[104, 49]⟩ := ext_list h
      clear h
      go_enter Tryz.func72, Tryz.ntmps72
      go_wp2_with fail
      go_ret
      exact ⟨rfl, rfl⟩
    · obtain rfl : n = ⟨#[104, 50]⟩ := ext_list h
      clear h
      go_enter Tryz.func72, Tryz.ntmps72
      go_wp2_with fail
      go_ret
      exact ⟨rfl, rfl⟩
    · obtain rfl : n = ⟨#[104, 51]⟩ := ext_list h
      clear h
      go_enter Tryz.func72, Tryz.ntmps72
      go_wp2_with fail
      go_ret
      exact ⟨rfl, rfl⟩
    · obtain rfl : n = ⟨#[104, 52]⟩ := ext_list h
      clear h
      go_enter Tryz.func72, Tryz.ntmps72
      go_wp2_with fail
      go_ret
      exact ⟨rfl, rfl⟩
    · obtain rfl : n = ⟨#[104, 53]⟩ := ext_list h
      clear h
      go_enter Tryz.func72, Tryz.ntmps72
      go_wp2_with fail
      go_ret
      exact ⟨rfl, rfl⟩
    · obtain rfl : n = ⟨#[104, 54]⟩ := ext_list h
      clear h
      go_enter Tryz.func72, Tryz.ntmps72
      go_wp2_with fail
      go_ret
      exact ⟨rfl, rfl⟩
  | false =>
    by_cases hz : n.size = 2
    · have z0 : 0 < n.size := by omega
      have z1 : 1 < n.size := by omega
      have hk2 : headNL.contains [n[0], n[1]] = false := by
        have e : n.data.toList = [n[0], n[1]] := by
          have := drop_cons n 0 z0
          rw [List.drop_zero] at this
          rw [this, drop_cons n 1 z1, drop_nil n 2 (by omega)]
        rw [← e]; exact hk
      have tz : ((n.size : Int) == 2) = true := by rw [beq_iff_eq]; omega
      clear hk hz
      by_cases ha : n[0] = 104
      · have t0 : ((n[0].toNat : Int) == 104) = true := tT 104 ha (by omega)
        by_cases h1 : n[1].toNat < 49
        · have t1 : decide ((49 : Int) ≤ (n[1].toNat : Int)) = false := decide_eq_false (by omega)
          clear hk2 h1 ha
          go_enter Tryz.func72, Tryz.ntmps72
          go_wp2_with fail
          go_ret
          exact ⟨rfl, rfl⟩
        · have t1 : decide ((49 : Int) ≤ (n[1].toNat : Int)) = true := decide_eq_true (by omega)
          have h2 : 54 < n[1].toNat := by
            refine Decidable.byContradiction fun h2 => ?_
            have hb := (u8_all (p := fun b => 49 ≤ b.toNat → b.toNat ≤ 54 → headNL.contains [104, b] = true) (by decide +kernel) n[1]) (by omega) (by omega)
            rw [ha, hb] at hk2; cases hk2
          have t2 : decide ((n[1].toNat : Int) ≤ 54) = false := decide_eq_false (by omega)
          clear hk2 h1 h2 ha
          go_enter Tryz.func72, Tryz.ntmps72
          go_wp2_with fail
          go_ret
          exact ⟨rfl, rfl⟩
      · have t0 : ((n[0].toNat : Int) == 104) = false := tF 104 ha (by omega)
        clear hk2 ha
        go_enter Tryz.func72, Tryz.ntmps72
        go_wp2_with fail
        go_ret
        exact ⟨rfl, rfl⟩
    · have t0 : ((n.size : Int) == 2) = false := beq_eq_false_iff_ne.2 (by omega)
      clear hk hz
      go_enter Tryz.func72, Tryz.ntmps72
      go_wp2_with fail
      go_ret
      exact ⟨rfl, rfl⟩
theorem rcloses14_pure (n o : List UInt8) (h : o ≠ [112] ∧ o ≠ [100, 100] ∧ o ≠ [100, 116] ∧ o ≠ [116, 100] ∧ o ≠ [116, 104] ∧ o ≠ [108, 105] ∧ o ≠ [97] ∧ o ≠ [111, 112, 116, 105, 111, 110] ∧ o ≠ [116, 114] ∧ o ≠ [110, 111, 98, 114] ∧ o ≠ [98, 117, 116, 116, 111, 110]) : closesB n o = (headNB o && headNB n) := by
  unfold closesB
  rw [if_neg h.1, if_neg (fun e => e.elim h.2.1 h.2.2.1), if_neg (fun e => e.elim h.2.2.2.1 h.2.2.2.2.1), if_neg]
  have h2 := h.2.2.2.2.2
  simp only [sameL, List.contains_cons, List.contains_nil, Bool.or_false, Bool.or_eq_true, beq_iff_eq, not_or]
  exact h2
set_option maxHeartbeats 8000000 in
theorem rcloses14_any (n o : ByteArray) (w : World) : Calls Tryz.prog 31 #[.string n, .string o] w fun e w' => e = .returned (.bool (closesB n.data.toList o.data.toList)) ∧ w = w' := by
  by_cases h0 : o.data.toList = [112]
  · obtain rfl : o = ⟨#[112]⟩ := ext_list h0
    have hb := rblock14_any n w
    have he : closesB n.data.toList (⟨#[112]⟩ : ByteArray).data.toList = blockNL.contains n.data.toList := rfl
    rw [he]
    obtain ⟨bb, hbb⟩ : ∃ bb, bb = blockNL.contains n.data.toList := ⟨_, rfl⟩
    rw [← hbb] at hb ⊢
    have HB := hide hb
    clear h0 hb he hbb
    go_enter Tryz.func31, Tryz.ntmps31
    go_wp2_with fail
    refine HB.out.mono ?_
    rintro e w1 ⟨rfl, rfl⟩
    go_wp2_with fail
    go_ret
    exact ⟨rfl, rfl⟩
  by_cases h1 : o.data.toList = [100, 100]
  · obtain rfl : o = ⟨#[100, 100]⟩ := ext_list h1
    clear h0 h1
    by_cases m : n.data.toList = [100, 100]
    · obtain rfl : n = ⟨#[100, 100]⟩ := ext_list m
      clear m
      rw [show closesB (⟨#[100, 100]⟩ : ByteArray).data.toList (⟨#[100, 100]⟩ : ByteArray).data.toList = true by decide]
      go_enter Tryz.func31, Tryz.ntmps31
      go_wp2_with fail
      go_ret
      exact ⟨rfl, rfl⟩
    have m0 := m
    clear m
    by_cases m : n.data.toList = [100, 116]
    · obtain rfl : n = ⟨#[100, 116]⟩ := ext_list m
      clear m
      rw [show closesB (⟨#[100, 116]⟩ : ByteArray).data.toList (⟨#[100, 100]⟩ : ByteArray).data.toList = true by decide]
      go_enter Tryz.func31, Tryz.ntmps31
      go_wp2_with fail
      go_ret
      exact ⟨rfl, rfl⟩
    have m1 := m
    clear m
    have t0 : (n.toList == [100, 100]) = false := beq_eq_false_iff_ne.2 (by rw [bytes_list]; exact m0)
    have t1 : (n.toList == [100, 116]) = false := beq_eq_false_iff_ne.2 (by rw [bytes_list]; exact m1)
    have HE : closesB n.data.toList (⟨#[100, 100]⟩ : ByteArray).data.toList = false := by
      show decide (n.data.toList = [100, 100] ∨ n.data.toList = [100, 116]) = false
      exact decide_eq_false (by simp only [not_or]; exact ⟨m0, m1⟩)
    clear m0 m1
    rw [HE]
    clear HE
    go_enter Tryz.func31, Tryz.ntmps31
    go_wp2_with fail
    go_ret
    exact ⟨rfl, rfl⟩
  by_cases h2 : o.data.toList = [100, 116]
  · obtain rfl : o = ⟨#[100, 116]⟩ := ext_list h2
    clear h0 h1 h2
    by_cases m : n.data.toList = [100, 100]
    · obtain rfl : n = ⟨#[100, 100]⟩ := ext_list m
      clear m
      rw [show closesB (⟨#[100, 100]⟩ : ByteArray).data.toList (⟨#[100, 116]⟩ : ByteArray).data.toList = true by decide]
      go_enter Tryz.func31, Tryz.ntmps31
      go_wp2_with fail
      go_ret
      exact ⟨rfl, rfl⟩
    have m0 := m
    clear m
    by_cases m : n.data.toList = [100, 116]
    · obtain rfl : n = ⟨#[100, 116]⟩ := ext_list m
      clear m
      rw [show closesB (⟨#[100, 116]⟩ : ByteArray).data.toList (⟨#[100, 116]⟩ : ByteArray).data.toList = true by decide]
      go_enter Tryz.func31, Tryz.ntmps31
      go_wp2_with fail
      go_ret
      exact ⟨rfl, rfl⟩
    have m1 := m
    clear m
    have t0 : (n.toList == [100, 100]) = false := beq_eq_false_iff_ne.2 (by rw [bytes_list]; exact m0)
    have t1 : (n.toList == [100, 116]) = false := beq_eq_false_iff_ne.2 (by rw [bytes_list]; exact m1)
    have HE : closesB n.data.toList (⟨#[100, 116]⟩ : ByteArray).data.toList = false := by
      show decide (n.data.toList = [100, 100] ∨ n.data.toList = [100, 116]) = false
      exact decide_eq_false (by simp only [not_or]; exact ⟨m0, m1⟩)
    clear m0 m1
    rw [HE]
    clear HE
    go_enter Tryz.func31, Tryz.ntmps31
    go_wp2_with fail
    go_ret
    exact ⟨rfl, rfl⟩
  by_cases h3 : o.data.toList = [116, 100]
  · obtain rfl : o = ⟨#[116, 100]⟩ := ext_list h3
    clear h0 h1 h2 h3
    by_cases m : n.data.toList = [116, 100]
    · obtain rfl : n = ⟨#[116, 100]⟩ := ext_list m
      clear m
      rw [show closesB (⟨#[116, 100]⟩ : ByteArray).data.toList (⟨#[116, 100]⟩ : ByteArray).data.toList = true by decide]
      go_enter Tryz.func31, Tryz.ntmps31
      go_wp2_with fail
      go_ret
      exact ⟨rfl, rfl⟩
    have m0 := m
    clear m
    by_cases m : n.data.toList = [116, 104]
    · obtain rfl : n = ⟨#[116, 104]⟩ := ext_list m
      clear m
      rw [show closesB (⟨#[116, 104]⟩ : ByteArray).data.toList (⟨#[116, 100]⟩ : ByteArray).data.toList = true by decide]
      go_enter Tryz.func31, Tryz.ntmps31
      go_wp2_with fail
      go_ret
      exact ⟨rfl, rfl⟩
    have m1 := m
    clear m
    by_cases m : n.data.toList = [116, 114]
    · obtain rfl : n = ⟨#[116, 114]⟩ := ext_list m
      clear m
      rw [show closesB (⟨#[116, 114]⟩ : ByteArray).data.toList (⟨#[116, 100]⟩ : ByteArray).data.toList = true by decide]
      go_enter Tryz.func31, Tryz.ntmps31
      go_wp2_with fail
      go_ret
      exact ⟨rfl, rfl⟩
    have m2 := m
    clear m
    have t0 : (n.toList == [116, 100]) = false := beq_eq_false_iff_ne.2 (by rw [bytes_list]; exact m0)
    have t1 : (n.toList == [116, 104]) = false := beq_eq_false_iff_ne.2 (by rw [bytes_list]; exact m1)
    have t2 : (n.toList == [116, 114]) = false := beq_eq_false_iff_ne.2 (by rw [bytes_list]; exact m2)
    have HE : closesB n.data.toList (⟨#[116, 100]⟩ : ByteArray).data.toList = false := by
      show decide (n.data.toList = [116, 100] ∨ n.data.toList = [116, 104] ∨ n.data.toList = [116, 114]) = false
      exact decide_eq_false (by simp only [not_or]; exact ⟨m0, m1, m2⟩)
    clear m0 m1 m2
    rw [HE]
    clear HE
    go_enter Tryz.func31, Tryz.ntmps31
    go_wp2_with fail
    go_ret
    exact ⟨rfl, rfl⟩
  by_cases h4 : o.data.toList = [116, 104]
  · obtain rfl : o = ⟨#[116, 104]⟩ := ext_list h4
    clear h0 h1 h2 h3 h4
    by_cases m : n.data.toList = [116, 100]
    · obtain rfl : n = ⟨#[116, 100]⟩ := ext_list m
      clear m
      rw [show closesB (⟨#[116, 100]⟩ : ByteArray).data.toList (⟨#[116, 104]⟩ : ByteArray).data.toList = true by decide]
      go_enter Tryz.func31, Tryz.ntmps31
      go_wp2_with fail
      go_ret
      exact ⟨rfl, rfl⟩
    have m0 := m
    clear m
    by_cases m : n.data.toList = [116, 104]
    · obtain rfl : n = ⟨#[116, 104]⟩ := ext_list m
      clear m
      rw [show closesB (⟨#[116, 104]⟩ : ByteArray).data.toList (⟨#[116, 104]⟩ : ByteArray).data.toList = true by decide]
      go_enter Tryz.func31, Tryz.ntmps31
      go_wp2_with fail
      go_ret
      exact ⟨rfl, rfl⟩
    have m1 := m
    clear m
    by_cases m : n.data.toList = [116, 114]
    · obtain rfl : n = ⟨#[116, 114]⟩ := ext_list m
      clear m
      rw [show closesB (⟨#[116, 114]⟩ : ByteArray).data.toList (⟨#[116, 104]⟩ : ByteArray).data.toList = true by decide]
      go_enter Tryz.func31, Tryz.ntmps31
      go_wp2_with fail
      go_ret
      exact ⟨rfl, rfl⟩
    have m2 := m
    clear m
    have t0 : (n.toList == [116, 100]) = false := beq_eq_false_iff_ne.2 (by rw [bytes_list]; exact m0)
    have t1 : (n.toList == [116, 104]) = false := beq_eq_false_iff_ne.2 (by rw [bytes_list]; exact m1)
    have t2 : (n.toList == [116, 114]) = false := beq_eq_false_iff_ne.2 (by rw [bytes_list]; exact m2)
    have HE : closesB n.data.toList (⟨#[116, 104]⟩ : ByteArray).data.toList = false := by
      show decide (n.data.toList = [116, 100] ∨ n.data.toList = [116, 104] ∨ n.data.toList = [116, 114]) = false
      exact decide_eq_false (by simp only [not_or]; exact ⟨m0, m1, m2⟩)
    clear m0 m1 m2
    rw [HE]
    clear HE
    go_enter Tryz.func31, Tryz.ntmps31
    go_wp2_with fail
    go_ret
    exact ⟨rfl, rfl⟩
  by_cases h5 : o.data.toList = [108, 105]
  · obtain rfl : o = ⟨#[108, 105]⟩ := ext_list h5
    clear h0 h1 h2 h3 h4 h5
    by_cases m : n.data.toList = [108, 105]
    · obtain rfl : n = ⟨#[108, 105]⟩ := ext_list m
      clear m
      rw [show closesB (⟨#[108, 105]⟩ : ByteArray).data.toList (⟨#[108, 105]⟩ : ByteArray).data.toList = true by decide]
      go_enter Tryz.func31, Tryz.ntmps31
      go_wp2_with fail
      go_ret
      exact ⟨rfl, rfl⟩
    have m0 := m
    clear m
    have t0 : (n.toList == [108, 105]) = false := beq_eq_false_iff_ne.2 (by rw [bytes_list]; exact m0)
    have HE : closesB n.data.toList (⟨#[108, 105]⟩ : ByteArray).data.toList = false := by
      show decide (n.data.toList = [108, 105]) = false
      exact decide_eq_false m0
    clear m0
    rw [HE]
    clear HE
    go_enter Tryz.func31, Tryz.ntmps31
    go_wp2_with fail
    go_ret
    exact ⟨rfl, rfl⟩
  by_cases h6 : o.data.toList = [97]
  · obtain rfl : o = ⟨#[97]⟩ := ext_list h6
    clear h0 h1 h2 h3 h4 h5 h6
    by_cases m : n.data.toList = [97]
    · obtain rfl : n = ⟨#[97]⟩ := ext_list m
      clear m
      rw [show closesB (⟨#[97]⟩ : ByteArray).data.toList (⟨#[97]⟩ : ByteArray).data.toList = true by decide]
      go_enter Tryz.func31, Tryz.ntmps31
      go_wp2_with fail
      go_ret
      exact ⟨rfl, rfl⟩
    have m0 := m
    clear m
    have t0 : (n.toList == [97]) = false := beq_eq_false_iff_ne.2 (by rw [bytes_list]; exact m0)
    have HE : closesB n.data.toList (⟨#[97]⟩ : ByteArray).data.toList = false := by
      show decide (n.data.toList = [97]) = false
      exact decide_eq_false m0
    clear m0
    rw [HE]
    clear HE
    go_enter Tryz.func31, Tryz.ntmps31
    go_wp2_with fail
    go_ret
    exact ⟨rfl, rfl⟩
  by_cases h7 : o.data.toList = [111, 112, 116, 105, 111, 110]
  · obtain rfl : o = ⟨#[111, 112, 116, 105, 111, 110]⟩ := ext_list h7
    clear h0 h1 h2 h3 h4 h5 h6 h7
    by_cases m : n.data.toList = [111, 112, 116, 105, 111, 110]
    · obtain rfl : n = ⟨#[111, 112, 116, 105, 111, 110]⟩ := ext_list m
      clear m
      rw [show closesB (⟨#[111, 112, 116, 105, 111, 110]⟩ : ByteArray).data.toList (⟨#[111, 112, 116, 105, 111, 110]⟩ : ByteArray).data.toList = true by decide]
      go_enter Tryz.func31, Tryz.ntmps31
      go_wp2_with fail
      go_ret
      exact ⟨rfl, rfl⟩
    have m0 := m
    clear m
    have t0 : (n.toList == [111, 112, 116, 105, 111, 110]) = false := beq_eq_false_iff_ne.2 (by rw [bytes_list]; exact m0)
    have HE : closesB n.data.toList (⟨#[111, 112, 116, 105, 111, 110]⟩ : ByteArray).data.toList = false := by
      show decide (n.data.toList = [111, 112, 116, 105, 111, 110]) = false
      exact decide_eq_false m0
    clear m0
    rw [HE]
    clear HE
    go_enter Tryz.func31, Tryz.ntmps31
    go_wp2_with fail
    go_ret
    exact ⟨rfl, rfl⟩
  by_cases h8 : o.data.toList = [116, 114]
  · obtain rfl : o = ⟨#[116, 114]⟩ := ext_list h8
    clear h0 h1 h2 h3 h4 h5 h6 h7 h8
    by_cases m : n.data.toList = [116, 114]
    · obtain rfl : n = ⟨#[116, 114]⟩ := ext_list m
      clear m
      rw [show closesB (⟨#[116, 114]⟩ : ByteArray).data.toList (⟨#[116, 114]⟩ : ByteArray).data.toList = true by decide]
      go_enter Tryz.func31, Tryz.ntmps31
      go_wp2_with fail
      go_ret
      exact ⟨rfl, rfl⟩
    have m0 := m
    clear m
    have t0 : (n.toList == [116, 114]) = false := beq_eq_false_iff_ne.2 (by rw [bytes_list]; exact m0)
    have HE : closesB n.data.toList (⟨#[116, 114]⟩ : ByteArray).data.toList = false := by
      show decide (n.data.toList = [116, 114]) = false
      exact decide_eq_false m0
    clear m0
    rw [HE]
    clear HE
    go_enter Tryz.func31, Tryz.ntmps31
    go_wp2_with fail
    go_ret
    exact ⟨rfl, rfl⟩
  by_cases h9 : o.data.toList = [110, 111, 98, 114]
  · obtain rfl : o = ⟨#[110, 111, 98, 114]⟩ := ext_list h9
    clear h0 h1 h2 h3 h4 h5 h6 h7 h8 h9
    by_cases m : n.data.toList = [110, 111, 98, 114]
    · obtain rfl : n = ⟨#[110, 111, 98, 114]⟩ := ext_list m
      clear m
      rw [show closesB (⟨#[110, 111, 98, 114]⟩ : ByteArray).data.toList (⟨#[110, 111, 98, 114]⟩ : ByteArray).data.toList = true by decide]
      go_enter Tryz.func31, Tryz.ntmps31
      go_wp2_with fail
      go_ret
      exact ⟨rfl, rfl⟩
    have m0 := m
    clear m
    have t0 : (n.toList == [110, 111, 98, 114]) = false := beq_eq_false_iff_ne.2 (by rw [bytes_list]; exact m0)
    have HE : closesB n.data.toList (⟨#[110, 111, 98, 114]⟩ : ByteArray).data.toList = false := by
      show decide (n.data.toList = [110, 111, 98, 114]) = false
      exact decide_eq_false m0
    clear m0
    rw [HE]
    clear HE
    go_enter Tryz.func31, Tryz.ntmps31
    go_wp2_with fail
    go_ret
    exact ⟨rfl, rfl⟩
  by_cases h10 : o.data.toList = [98, 117, 116, 116, 111, 110]
  · obtain rfl : o = ⟨#[98, 117, 116, 116, 111, 110]⟩ := ext_list h10
    clear h0 h1 h2 h3 h4 h5 h6 h7 h8 h9 h10
    by_cases m : n.data.toList = [98, 117, 116, 116, 111, 110]
    · obtain rfl : n = ⟨#[98, 117, 116, 116, 111, 110]⟩ := ext_list m
      clear m
      rw [show closesB (⟨#[98, 117, 116, 116, 111, 110]⟩ : ByteArray).data.toList (⟨#[98, 117, 116, 116, 111, 110]⟩ : ByteArray).data.toList = true by decide]
      go_enter Tryz.func31, Tryz.ntmps31
      go_wp2_with fail
      go_ret
      exact ⟨rfl, rfl⟩
    have m0 := m
    clear m
    have t0 : (n.toList == [98, 117, 116, 116, 111, 110]) = false := beq_eq_false_iff_ne.2 (by rw [bytes_list]; exact m0)
    have HE : closesB n.data.toList (⟨#[98, 117, 116, 116, 111, 110]⟩ : ByteArray).data.toList = false := by
      show decide (n.data.toList = [98, 117, 116, 116, 111, 110]) = false
      exact decide_eq_false m0
    clear m0
    rw [HE]
    clear HE
    go_enter Tryz.func31, Tryz.ntmps31
    go_wp2_with fail
    go_ret
    exact ⟨rfl, rfl⟩
  rw [rcloses14_pure n.data.toList o.data.toList ⟨h0, h1, h2, h3, h4, h5, h6, h7, h8, h9, h10⟩]
  have t0 : (o.toList == [112]) = false := beq_eq_false_iff_ne.2 (by rw [bytes_list]; exact h0)
  have t1 : (o.toList == [100, 100]) = false := beq_eq_false_iff_ne.2 (by rw [bytes_list]; exact h1)
  have t2 : (o.toList == [100, 116]) = false := beq_eq_false_iff_ne.2 (by rw [bytes_list]; exact h2)
  have t3 : (o.toList == [116, 100]) = false := beq_eq_false_iff_ne.2 (by rw [bytes_list]; exact h3)
  have t4 : (o.toList == [116, 104]) = false := beq_eq_false_iff_ne.2 (by rw [bytes_list]; exact h4)
  have t5 : (o.toList == [108, 105]) = false := beq_eq_false_iff_ne.2 (by rw [bytes_list]; exact h5)
  have t6 : (o.toList == [97]) = false := beq_eq_false_iff_ne.2 (by rw [bytes_list]; exact h6)
  have t7 : (o.toList == [111, 112, 116, 105, 111, 110]) = false := beq_eq_false_iff_ne.2 (by rw [bytes_list]; exact h7)
  have t8 : (o.toList == [116, 114]) = false := beq_eq_false_iff_ne.2 (by rw [bytes_list]; exact h8)
  have t9 : (o.toList == [110, 111, 98, 114]) = false := beq_eq_false_iff_ne.2 (by rw [bytes_list]; exact h9)
  have t10 : (o.toList == [98, 117, 116, 116, 111, 110]) = false := beq_eq_false_iff_ne.2 (by rw [bytes_list]; exact h10)
  clear h0 h1 h2 h3 h4 h5 h6 h7 h8 h9 h10
  have hh : ∀ (s : ByteArray) (bb : Bool), headNB s.data.toList = bb → Calls Tryz.prog 72 #[.string s] w fun e w' => e = .returned (.bool bb) ∧ w = w' := fun s bb e => by rw [← e]; exact rhead14_any s w
  cases ho : headNB o.data.toList with
  | false =>
    have HO := hide (hh o false ho)
    clear hh ho
    go_enter Tryz.func31, Tryz.ntmps31
    go_wp2_with fail
    refine HO.out.mono ?_
    rintro e w1 ⟨rfl, rfl⟩
    go_wp2_with fail
    go_ret
    exact ⟨rfl, rfl⟩
  | true =>
    have HO := hide (hh o true ho)
    obtain ⟨bb, hbb⟩ : ∃ bb, bb = headNB n.data.toList := ⟨_, rfl⟩
    have HN := hide (hh n bb hbb.symm)
    rw [← hbb]
    clear hh ho hbb
    go_enter Tryz.func31, Tryz.ntmps31
    go_wp2_with fail
    refine HO.out.mono ?_
    rintro e w1 ⟨rfl, rfl⟩
    go_wp2_with fail
    refine HN.out.mono ?_
    rintro e w1 ⟨rfl, rfl⟩
    go_wp2_with fail
    go_ret
    exact ⟨rfl, rfl⟩
end Go.Proofs.YtgokefodmjhhiaaGreatDoor
