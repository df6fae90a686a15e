import Derived.Test.YtiejmkjpgjbodaaGreatDoorBaseN
namespace Go.Proofs.YtiejmkjpgjbodaaGreatDoor
open Go.RowKit
set_option linter.unusedVariables false
set_option linter.unusedSimpArgs false
set_option maxRecDepth 100000
set_option maxHeartbeats 8000000 in
theorem isWall_any (n : ByteArray) (w : World) : Calls Tryz.prog 87 #[.string n] w fun e w' => e = .returned (.bool (wallL.contains n.data.toList)) ∧ w = w' := by
  cases hk : wallL.contains n.data.toList with
  | true =>
    have hc : n.data.toList = [116, 97, 98, 108, 101] ∨ n.data.toList = [98, 117, 116, 116, 111, 110] ∨ n.data.toList = [117, 108] ∨ n.data.toList = [111, 108] ∨ n.data.toList = [100, 108] ∨ n.data.toList = [115, 118, 103] ∨ n.data.toList = [109, 97, 116, 104] ∨ n.data.toList = [116, 101, 109, 112, 108, 97, 116, 101] ∨ n.data.toList = [111, 98, 106, 101, 99, 116] ∨ n.data.toList = [97, 112, 112, 108, 101, 116] ∨ n.data.toList = [109, 97, 114, 113, 117, 101, 101] := by simpa [wallL] using hk
    clear hk
    rcases hc with h | h | h | h | h | h | h | h | h | h | h
    · obtain rfl : n = ⟨#[116, 97, 98, 108, 101]⟩ := ext_list h
      clear h
      go_enter Tryz.func87, Tryz.ntmps87
      go_wp2_with fail
      go_ret
      exact ⟨rfl, rfl⟩
    · obtain rfl : n = ⟨#[98, 117, 116, 116, 111, 110]⟩ := ext_list h
      clear h
      go_enter Tryz.func87, Tryz.ntmps87
      go_wp2_with fail
      go_ret
      exact ⟨rfl, rfl⟩
    · obtain rfl : n = ⟨#[117, 108]⟩ := ext_list h
      clear h
      go_enter Tryz.func87, Tryz.ntmps87
      go_wp2_with fail
      go_ret
      exact ⟨rfl, rfl⟩
    · obtain rfl : n = ⟨#[111, 108]⟩ := ext_list h
      clear h
      go_enter Tryz.func87, Tryz.ntmps87
      go_wp2_with fail
      go_ret
      exact ⟨rfl, rfl⟩
    · obtain rfl : n = ⟨#[100, 108]⟩ := ext_list h
      clear h
      go_enter Tryz.func87, Tryz.ntmps87
      go_wp2_with fail
      go_ret
      exact ⟨rfl, rfl⟩
    · obtain rfl : n = ⟨#[115, 118, 103]⟩ := ext_list h
      clear h
      go_enter Tryz.func87, Tryz.ntmps87
      go_wp2_with fail
      go_ret
      exact ⟨rfl, rfl⟩
    · obtain rfl : n = ⟨#[109, 97, 116, 104]⟩ := ext_list h
      clear h
      go_enter Tryz.func87, Tryz.ntmps87
      go_wp2_with fail
      go_ret
      exact ⟨rfl, rfl⟩
    · obtain rfl : n = ⟨#[116, 101, 109, 112, 108, 97, 116, 101]⟩ := ext_list h
      clear h
      go_enter Tryz.func87, Tryz.ntmps87
      go_wp2_with fail
      go_ret
      exact ⟨rfl, rfl⟩
    · obtain rfl : n = ⟨#[111, 98, 106, 101, 99, 116]⟩ := ext_list h
      clear h
      go_enter Tryz.func87, Tryz.ntmps87
      go_wp2_with fail
      go_ret
      exact ⟨rfl, rfl⟩
    · obtain rfl : n = ⟨#[97, 112, 112, 108, 101, 116]⟩ := ext_list h
      clear h
      go_enter Tryz.func87, Tryz.ntmps87
      go_wp2_with fail
      go_ret
      exact ⟨rfl, rfl⟩
    · obtain rfl : n = ⟨#[109, 97, 114, 113, 117, 101, 101]⟩ := ext_list h
      clear h
      go_enter Tryz.func87, Tryz.ntmps87
      go_wp2_with fail
      go_ret
      exact ⟨rfl, rfl⟩
  | false =>
    have hc : n.data.toList ≠ [116, 97, 98, 108, 101] ∧ n.data.toList ≠ [98, 117, 116, 116, 111, 110] ∧ n.data.toList ≠ [117, 108] ∧ n.data.toList ≠ [111, 108] ∧ n.data.toList ≠ [100, 108] ∧ n.data.toList ≠ [115, 118, 103] ∧ n.data.toList ≠ [109, 97, 116, 104] ∧ n.data.toList ≠ [116, 101, 109, 112, 108, 97, 116, 101] ∧ n.data.toList ≠ [111, 98, 106, 101, 99, 116] ∧ n.data.toList ≠ [97, 112, 112, 108, 101, 116] ∧ n.data.toList ≠ [109, 97, 114, 113, 117, 101, 101] := by simpa [wallL] using hk
    clear hk
    obtain ⟨tn0, tn1, tn2, tn3, tn4, tn5, tn6, tn7, tn8, tn9, tn10⟩ := hc
    have t0 : (n.toList == [116, 97, 98, 108, 101]) = false := beq_eq_false_iff_ne.2 (by rw [bytes_list]; exact tn0)
    have t1 : (n.toList == [98, 117, 116, 116, 111, 110]) = false := beq_eq_false_iff_ne.2 (by rw [bytes_list]; exact tn1)
    have t2 : (n.toList == [117, 108]) = false := beq_eq_false_iff_ne.2 (by rw [bytes_list]; exact tn2)
    have t3 : (n.toList == [111, 108]) = false := beq_eq_false_iff_ne.2 (by rw [bytes_list]; exact tn3)
    have t4 : (n.toList == [100, 108]) = false := beq_eq_false_iff_ne.2 (by rw [bytes_list]; exact tn4)
    have t5 : (n.toList == [115, 118, 103]) = false := beq_eq_false_iff_ne.2 (by rw [bytes_list]; exact tn5)
    have t6 : (n.toList == [109, 97, 116, 104]) = false := beq_eq_false_iff_ne.2 (by rw [bytes_list]; exact tn6)
    have t7 : (n.toList == [116, 101, 109, 112, 108, 97, 116, 101]) = false := beq_eq_false_iff_ne.2 (by rw [bytes_list]; exact tn7)
    have t8 : (n.toList == [111, 98, 106, 101, 99, 116]) = false := beq_eq_false_iff_ne.2 (by rw [bytes_list]; exact tn8)
    have t9 : (n.toList == [97, 112, 112, 108, 101, 116]) = false := beq_eq_false_iff_ne.2 (by rw [bytes_list]; exact tn9)
    have t10 : (n.toList == [109, 97, 114, 113, 117, 101, 101]) = false := beq_eq_false_iff_ne.2 (by rw [bytes_list]; exact tn10)
    clear tn0 tn1 tn2 tn3 tn4 tn5 tn6 tn7 tn8 tn9 tn10
    go_enter Tryz.func87, Tryz.ntmps87
    go_wp2_with fail
    go_ret
    exact ⟨rfl, rfl⟩
set_option maxHeartbeats 8000000 in
theorem isHeading_any (n : ByteArray) (w : World) : Calls Tryz.prog 80 #[.string n] w fun e w' => e = .returned (.bool (headNL.contains n.data.toList)) ∧ w = w' := by
  cases hk : headNL.contains n.data.toList with
  | true =>
    have hc : n.data.toList = [104, 49] ∨ n.data.toList = [104, 50] ∨ n.data.toList = [104, 51] ∨ n.data.toList = [104, 52] ∨ n.data.toList = [104, 53] ∨ n.data.toList = [104, 54] := by simpa [headNL] using hk
    clear hk
    rcases hc with h | h | h | h | h | h
    · obtain rfl : n = ⟨#[104, 49]⟩ := ext_list h
      clear h
      go_enter Tryz.func80, Tryz.ntmps80
      go_wp2_with fail
      go_ret
      exact ⟨rfl, rfl⟩
    · obtain rfl : n = ⟨#[104, 50]⟩ := ext_list h
      clear h
      go_enter Tryz.func80, Tryz.ntmps80
      go_wp2_with fail
      go_ret
      exact ⟨rfl, rfl⟩
    · obtain rfl : n = ⟨#[104, 51]⟩ := ext_list h
      clear h
      go_enter Tryz.func80, Tryz.ntmps80
      go_wp2_with fail
      go_ret
      exact ⟨rfl, rfl⟩
    · obtain rfl : n = ⟨#[104, 52]⟩ := ext_list h
      clear h
      go_enter Tryz.func80, Tryz.ntmps80
      go_wp2_with fail
      go_ret
      exact ⟨rfl, rfl⟩
    · obtain rfl : n = ⟨#[104, 53]⟩ := ext_list h
      clear h
      go_enter Tryz.func80, Tryz.ntmps80
      go_wp2_with fail
      go_ret
      exact ⟨rfl, rfl⟩
    · obtain rfl : n = ⟨#[104, 54]⟩ := ext_list h
      clear h
      go_enter Tryz.func80, Tryz.ntmps80
      go_wp2_with fail
      go_ret
      exact ⟨rfl, rfl⟩
  | false =>
    have hc : n.data.toList ≠ [104, 49] ∧ n.data.toList ≠ [104, 50] ∧ n.data.toList ≠ [104, 51] ∧ n.data.toList ≠ [104, 52] ∧ n.data.toList ≠ [104, 53] ∧ n.data.toList ≠ [104, 54] := by simpa [headNL] using hk
    clear hk
    obtain ⟨tn0, tn1, tn2, tn3, tn4, tn5⟩ := hc
    have t0 : (n.toList == [104, 49]) = false := beq_eq_false_iff_ne.2 (by rw [bytes_list]; exact tn0)
    have t1 : (n.toList == [104, 50]) = false := beq_eq_false_iff_ne.2 (by rw [bytes_list]; exact tn1)
    have t2 : (n.toList == [104, 51]) = false := beq_eq_false_iff_ne.2 (by rw [bytes_list]; exact tn2)
    have t3 : (n.toList == [104, 52]) = false := beq_eq_false_iff_ne.2 (by rw [bytes_list]; exact tn3)
    have t4 : (n.toList == [104, 53]) = false := beq_eq_false_iff_ne.2 (by rw [bytes_list]; exact tn4)
    have t5 : (n.toList == [104, 54]) = false := beq_eq_false_iff_ne.2 (by rw [bytes_list]; exact tn5)
    clear tn0 tn1 tn2 tn3 tn4 tn5
    go_enter Tryz.func80, Tryz.ntmps80
    go_wp2_with fail
    go_ret
    exact ⟨rfl, rfl⟩
set_option maxHeartbeats 8000000 in
theorem void14_any (n : ByteArray) (w : World) : Calls Tryz.prog 31 #[.string n] w fun e w' => e = .returned (.bool (voidL.contains n.data.toList)) ∧ w = w' := by
  cases hk : voidL.contains n.data.toList with
  | true =>
    have hc : n.data.toList = [97, 114, 101, 97] ∨ n.data.toList = [98, 97, 115, 101] ∨ n.data.toList = [98, 114] ∨ n.data.toList = [99, 111, 108] ∨ n.data.toList = [101, 109, 98, 101, 100] ∨ n.data.toList = [104, 114] ∨ n.data.toList = [105, 109, 103] ∨ n.data.toList = [105, 110, 112, 117, 116] ∨ n.data.toList = [108, 105, 110, 107] ∨ n.data.toList = [109, 101, 116, 97] ∨ n.data.toList = [115, 111, 117, 114, 99, 101] ∨ n.data.toList = [116, 114, 97, 99, 107] ∨ n.data.toList = [119, 98, 114] := by simpa [voidL] using hk
    clear hk
    rcases hc with h | h | h | h | h | h | h | h | h | h | h | h | h
    · obtain rfl : n = ⟨#[97, 114, 101, 97]⟩ := ext_list h
      clear h
      go_enter Tryz.func31, Tryz.ntmps31
      go_wp2_with fail
      go_ret
      exact ⟨rfl, rfl⟩
    · obtain rfl : n = ⟨#[98, 97, 115, 101]⟩ := ext_list h
      clear h
      go_enter Tryz.func31, Tryz.ntmps31
      go_wp2_with fail
      go_ret
      exact ⟨rfl, rfl⟩
    · obtain rfl : n = ⟨#[98, 114]⟩ := ext_list h
      clear h
      go_enter Tryz.func31, Tryz.ntmps31
      go_wp2_with fail
      go_ret
      exact ⟨rfl, rfl⟩
    · obtain rfl : n = ⟨#[99, 111, 108]⟩ := ext_list h
      clear h
      go_enter Tryz.func31, Tryz.ntmps31
      go_wp2_with fail
      go_ret
      exact ⟨rfl, rfl⟩
    · obtain rfl : n = ⟨#[101, 109, 98, 101, 100]⟩ := ext_list h
      clear h
      go_enter Tryz.func31, Tryz.ntmps31
      go_wp2_with fail
      go_ret
      exact ⟨rfl, rfl⟩
    · obtain rfl : n = ⟨#[104, 114]⟩ := ext_list h
      clear h
      go_enter Tryz.func31, Tryz.ntmps31
      go_wp2_with fail
      go_ret
      exact ⟨rfl, rfl⟩
    · obtain rfl : n = ⟨#[105, 109, 103]⟩ := ext_list h
      clear h
      go_enter Tryz.func31, Tryz.ntmps31
      go_wp2_with fail
      go_ret
      exact ⟨rfl, rfl⟩
    · obtain rfl : n = ⟨#[105, 110, 112, 117, 116]⟩ := ext_list h
      clear h
      go_enter Tryz.func31, Tryz.ntmps31
      go_wp2_with fail
      go_ret
      exact ⟨rfl, rfl⟩
    · obtain rfl : n = ⟨#[108, 105, 110, 107]⟩ := ext_list h
      clear h
      go_enter Tryz.func31, Tryz.ntmps31
      go_wp2_with fail
      go_ret
      exact ⟨rfl, rfl⟩
    · obtain rfl : n = ⟨#[109, 101, 116, 97]⟩ := ext_list h
      clear h
      go_enter Tryz.func31, Tryz.ntmps31
      go_wp2_with fail
      go_ret
      exact ⟨rfl, rfl⟩
    · obtain rfl : n = ⟨#[115, 111, 117, 114, 99, 101]⟩ := ext_list h
      clear h
      go_enter Tryz.func31, Tryz.ntmps31
      go_wp2_with fail
      go_ret
      exact ⟨rfl, rfl⟩
    · obtain rfl : n = ⟨#[116, 114, 97, 99, 107]⟩ := ext_list h
      clear h
      go_enter Tryz.func31, Tryz.ntmps31
      go_wp2_with fail
      go_ret
      exact ⟨rfl, rfl⟩
    · obtain rfl : n = ⟨#[119, 98, 114]⟩ := ext_list h
      clear h
      go_enter Tryz.func31, Tryz.ntmps31
      go_wp2_with fail
      go_ret
      exact ⟨rfl, rfl⟩
  | false =>
    have hc : n.data.toList ≠ [97, 114, 101, 97] ∧ n.data.toList ≠ [98, 97, 115, 101] ∧ n.data.toList ≠ [98, 114] ∧ n.data.toList ≠ [99, 111, 108] ∧ n.data.toList ≠ [101, 109, 98, 101, 100] ∧ n.data.toList ≠ [104, 114] ∧ n.data.toList ≠ [105, 109, 103] ∧ n.data.toList ≠ [105, 110, 112, 117, 116] ∧ n.data.toList ≠ [108, 105, 110, 107] ∧ n.data.toList ≠ [109, 101, 116, 97] ∧ n.data.toList ≠ [115, 111, 117, 114, 99, 101] ∧ n.data.toList ≠ [116, 114, 97, 99, 107] ∧ n.data.toList ≠ [119, 98, 114] := by simpa [voidL] using hk
    clear hk
    obtain ⟨tn0, tn1, tn2, tn3, tn4, tn5, tn6, tn7, tn8, tn9, tn10, tn11, tn12⟩ := hc
    have t0 : (n.toList == [97, 114, 101, 97]) = false := beq_eq_false_iff_ne.2 (by rw [bytes_list]; exact tn0)
    have t1 : (n.toList == [98, 97, 115, 101]) = false := beq_eq_false_iff_ne.2 (by rw [bytes_list]; exact tn1)
    have t2 : (n.toList == [98, 114]) = false := beq_eq_false_iff_ne.2 (by rw [bytes_list]; exact tn2)
    have t3 : (n.toList == [99, 111, 108]) = false := beq_eq_false_iff_ne.2 (by rw [bytes_list]; exact tn3)
    have t4 : (n.toList == [101, 109, 98, 101, 100]) = false := beq_eq_false_iff_ne.2 (by rw [bytes_list]; exact tn4)
    have t5 : (n.toList == [104, 114]) = false := beq_eq_false_iff_ne.2 (by rw [bytes_list]; exact tn5)
    have t6 : (n.toList == [105, 109, 103]) = false := beq_eq_false_iff_ne.2 (by rw [bytes_list]; exact tn6)
    have t7 : (n.toList == [105, 110, 112, 117, 116]) = false := beq_eq_false_iff_ne.2 (by rw [bytes_list]; exact tn7)
    have t8 : (n.toList == [108, 105, 110, 107]) = false := beq_eq_false_iff_ne.2 (by rw [bytes_list]; exact tn8)
    have t9 : (n.toList == [109, 101, 116, 97]) = false := beq_eq_false_iff_ne.2 (by rw [bytes_list]; exact tn9)
    have t10 : (n.toList == [115, 111, 117, 114, 99, 101]) = false := beq_eq_false_iff_ne.2 (by rw [bytes_list]; exact tn10)
    have t11 : (n.toList == [116, 114, 97, 99, 107]) = false := beq_eq_false_iff_ne.2 (by rw [bytes_list]; exact tn11)
    have t12 : (n.toList == [119, 98, 114]) = false := beq_eq_false_iff_ne.2 (by rw [bytes_list]; exact tn12)
    clear tn0 tn1 tn2 tn3 tn4 tn5 tn6 tn7 tn8 tn9 tn10 tn11 tn12
    go_enter Tryz.func31, Tryz.ntmps31
    go_wp2_with fail
    go_ret
    exact ⟨rfl, rfl⟩
set_option maxHeartbeats 8000000 in
theorem isBlock_any (n : ByteArray) (w : World) : Calls Tryz.prog 79 #[.string n] w fun e w' => e = .returned (.bool (blockNL.contains n.data.toList)) ∧ w = w' := by
  have hh : ∀ bb : Bool, headNL.contains n.data.toList = bb → Calls Tryz.prog 80 #[.string n] w fun e w' => e = .returned (.bool bb) ∧ w = w' := fun bb e => by rw [← e]; exact isHeading_any n w
  cases hk : blockNL.contains n.data.toList with
  | true =>
    have hc : n.data.toList = [97, 100, 100, 114, 101, 115, 115] ∨ n.data.toList = [97, 114, 116, 105, 99, 108, 101] ∨ n.data.toList = [97, 115, 105, 100, 101] ∨ n.data.toList = [98, 108, 111, 99, 107, 113, 117, 111, 116, 101] ∨ n.data.toList = [99, 101, 110, 116, 101, 114] ∨ n.data.toList = [100, 101, 116, 97, 105, 108, 115] ∨ n.data.toList = [100, 105, 118] ∨ n.data.toList = [100, 108] ∨ n.data.toList = [102, 105, 101, 108, 100, 115, 101, 116] ∨ n.data.toList = [102, 105, 103, 117, 114, 101] ∨ n.data.toList = [102, 111, 111, 116, 101, 114] ∨ n.data.toList = [102, 111, 114, 109] ∨ n.data.toList = [104, 101, 97, 100, 101, 114] ∨ n.data.toList = [104, 114] ∨ n.data.toList = [108, 105] ∨ n.data.toList = [109, 97, 105, 110] ∨ n.data.toList = [110, 97, 118] ∨ n.data.toList = [111, 108] ∨ n.data.toList = [112] ∨ n.data.toList = [112, 114, 101] ∨ n.data.toList = [115, 101, 99, 116, 105, 111, 110] ∨ n.data.toList = [116, 97, 98, 108, 101] ∨ n.data.toList = [117, 108] ∨ n.data.toList = [100, 100] ∨ n.data.toList = [100, 116] ∨ n.data.toList = [104, 49] ∨ n.data.toList = [104, 50] ∨ n.data.toList = [104, 51] ∨ n.data.toList = [104, 52] ∨ n.data.toList = [104, 53] ∨ n.data.toList = [104, 54] := by simpa [blockNL] using hk
    clear hk
    rcases hc with h | h | h | h | h | h | h | h | h | h | h | h | h | h | h | h | h | h | h | h | h | h | h | h | h | h | h | h | h | h | h
    · obtain rfl : n = ⟨#[97, 100, 100, 114, 101, 115, 115]⟩ := ext_list h
      clear h hh
      go_enter Tryz.func79, Tryz.ntmps79
      go_wp2_with fail
      go_ret
      exact ⟨rfl, rfl⟩
    · obtain rfl : n = ⟨#[97, 114, 116, 105, 99, 108, 101]⟩ := ext_list h
      clear h hh
      go_enter Tryz.func79, Tryz.ntmps79
      go_wp2_with fail
      go_ret
      exact ⟨rfl, rfl⟩
    · obtain rfl : n = ⟨#[97, 115, 105, 100, 101]⟩ := ext_list h
      clear h hh
      go_enter Tryz.func79, Tryz.ntmps79
      go_wp2_with fail
      go_ret
      exact ⟨rfl, rfl⟩
    · obtain rfl : n = ⟨#[98, 108, 111, 99, 107, 113, 117, 111, 116, 101]⟩ := ext_list h
      clear h hh
      go_enter Tryz.func79, Tryz.ntmps79
      go_wp2_with fail
      go_ret
      exact ⟨rfl, rfl⟩
    · obtain rfl : n = ⟨#[99, 101, 110, 116, 101, 114]⟩ := ext_list h
      clear h hh
      go_enter Tryz.func79, Tryz.ntmps79
      go_wp2_with fail
      go_ret
      exact ⟨rfl, rfl⟩
    · obtain rfl : n = ⟨#[100, 101, 116, 97, 105, 108, 115]⟩ := ext_list h
      clear h hh
      go_enter Tryz.func79, Tryz.ntmps79
      go_wp2_with fail
      go_ret
      exact ⟨rfl, rfl⟩
    · obtain rfl : n = ⟨#[100, 105, 118]⟩ := ext_list h
      clear h hh
      go_enter Tryz.func79, Tryz.ntmps79
      go_wp2_with fail
      go_ret
      exact ⟨rfl, rfl⟩
    · obtain rfl : n = ⟨#[100, 108]⟩ := ext_list h
      clear h hh
      go_enter Tryz.func79, Tryz.ntmps79
      go_wp2_with fail
      go_ret
      exact ⟨rfl, rfl⟩
    · obtain rfl : n = ⟨#[102, 105, 101, 108, 100, 115, 101, 116]⟩ := ext_list h
      clear h hh
      go_enter Tryz.func79, Tryz.ntmps79
      go_wp2_with fail
      go_ret
      exact ⟨rfl, rfl⟩
    · obtain rfl : n = ⟨#[102, 105, 103, 117, 114, 101]⟩ := ext_list h
      clear h hh
      go_enter Tryz.func79, Tryz.ntmps79
      go_wp2_with fail
      go_ret
      exact ⟨rfl, rfl⟩
    · obtain rfl : n = ⟨#[102, 111, 111, 116, 101, 114]⟩ := ext_list h
      clear h hh
      go_enter Tryz.func79, Tryz.ntmps79
      go_wp2_with fail
      go_ret
      exact ⟨rfl, rfl⟩
    · obtain rfl : n = ⟨#[102, 111, 114, 109]⟩ := ext_list h
      clear h hh
      go_enter Tryz.func79, Tryz.ntmps79
      go_wp2_with fail
      go_ret
      exact ⟨rfl, rfl⟩
    · obtain rfl : n = ⟨#[104, 101, 97, 100, 101, 114]⟩ := ext_list h
      clear h hh
      go_enter Tryz.func79, Tryz.ntmps79
      go_wp2_with fail
      go_ret
      exact ⟨rfl, rfl⟩
    · obtain rfl : n = ⟨#[104, 114]⟩ := ext_list h
      clear h hh
      go_enter Tryz.func79, Tryz.ntmps79
      go_wp2_with fail
      go_ret
      exact ⟨rfl, rfl⟩
    · obtain rfl : n = ⟨#[108, 105]⟩ := ext_list h
      clear h hh
      go_enter Tryz.func79, Tryz.ntmps79
      go_wp2_with fail
      go_ret
      exact ⟨rfl, rfl⟩
    · obtain rfl : n = ⟨#[109, 97, 105, 110]⟩ := ext_list h
      clear h hh
      go_enter Tryz.func79, Tryz.ntmps79
      go_wp2_with fail
      go_ret
      exact ⟨rfl, rfl⟩
    · obtain rfl : n = ⟨#[110, 97, 118]⟩ := ext_list h
      clear h hh
      go_enter Tryz.func79, Tryz.ntmps79
      go_wp2_with fail
      go_ret
      exact ⟨rfl, rfl⟩
    · obtain rfl : n = ⟨#[111, 108]⟩ := ext_list h
      clear h hh
      go_enter Tryz.func79, Tryz.ntmps79
      go_wp2_with fail
      go_ret
      exact ⟨rfl, rfl⟩
    · obtain rfl : n = ⟨#[112]⟩ := ext_list h
      clear h hh
      go_enter Tryz.func79, Tryz.ntmps79
      go_wp2_with fail
      go_ret
      exact ⟨rfl, rfl⟩
    · obtain rfl : n = ⟨#[112, 114, 101]⟩ := ext_list h
      clear h hh
      go_enter Tryz.func79, Tryz.ntmps79
      go_wp2_with fail
      go_ret
      exact ⟨rfl, rfl⟩
    · obtain rfl : n = ⟨#[115, 101, 99, 116, 105, 111, 110]⟩ := ext_list h
      clear h hh
      go_enter Tryz.func79, Tryz.ntmps79
      go_wp2_with fail
      go_ret
      exact ⟨rfl, rfl⟩
    · obtain rfl : n = ⟨#[116, 97, 98, 108, 101]⟩ := ext_list h
      clear h hh
      go_enter Tryz.func79, Tryz.ntmps79
      go_wp2_with fail
      go_ret
      exact ⟨rfl, rfl⟩
    · obtain rfl : n = ⟨#[117, 108]⟩ := ext_list h
      clear h hh
      go_enter Tryz.func79, Tryz.ntmps79
      go_wp2_with fail
      go_ret
      exact ⟨rfl, rfl⟩
    · obtain rfl : n = ⟨#[100, 100]⟩ := ext_list h
      clear h hh
      go_enter Tryz.func79, Tryz.ntmps79
      go_wp2_with fail
      go_ret
      exact ⟨rfl, rfl⟩
    · obtain rfl : n = ⟨#[100, 116]⟩ := ext_list h
      clear h hh
      go_enter Tryz.func79, Tryz.ntmps79
      go_wp2_with fail
      go_ret
      exact ⟨rfl, rfl⟩
    · obtain rfl : n = ⟨#[104, 49]⟩ := ext_list h
      have HH := hide (hh true (by decide))
      clear h hh
      go_enter Tryz.func79, Tryz.ntmps79
      go_wp2_with fail
      refine HH.out.mono ?_
      rintro e w1 ⟨rfl, rfl⟩
      go_wp2_with fail
      go_ret
      exact ⟨rfl, rfl⟩
    · obtain rfl : n = ⟨#[104, 50]⟩ := ext_list h
      have HH := hide (hh true (by decide))
      clear h hh
      go_enter Tryz.func79, Tryz.ntmps79
      go_wp2_with fail
      refine HH.out.mono ?_
      rintro e w1 ⟨rfl, rfl⟩
      go_wp2_with fail
      go_ret
      exact ⟨rfl, rfl⟩
    · obtain rfl : n = ⟨#[104, 51]⟩ := ext_list h
      have HH := hide (hh true (by decide))
      clear h hh
      go_enter Tryz.func79, Tryz.ntmps79
      go_wp2_with fail
      refine HH.out.mono ?_
      rintro e w1 ⟨rfl, rfl⟩
      go_wp2_with fail
      go_ret
      exact ⟨rfl, rfl⟩
    · obtain rfl : n = ⟨#[104, 52]⟩ := ext_list h
      have HH := hide (hh true (by decide))
      clear h hh
      go_enter Tryz.func79, Tryz.ntmps79
      go_wp2_with fail
      refine HH.out.mono ?_
      rintro e w1 ⟨rfl, rfl⟩
      go_wp2_with fail
      go_ret
      exact ⟨rfl, rfl⟩
    · obtain rfl : n = ⟨#[104, 53]⟩ := ext_list h
      have HH := hide (hh true (by decide))
      clear h hh
      go_enter Tryz.func79, Tryz.ntmps79
      go_wp2_with fail
      refine HH.out.mono ?_
      rintro e w1 ⟨rfl, rfl⟩
      go_wp2_with fail
      go_ret
      exact ⟨rfl, rfl⟩
    · obtain rfl : n = ⟨#[104, 54]⟩ := ext_list h
      have HH := hide (hh true (by decide))
      clear h hh
      go_enter Tryz.func79, Tryz.ntmps79
      go_wp2_with fail
      refine HH.out.mono ?_
      rintro e w1 ⟨rfl, rfl⟩
      go_wp2_with fail
      go_ret
      exact ⟨rfl, rfl⟩
  | false =>
    have hc : n.data.toList ≠ [97, 100, 100, 114, 101, 115, 115] ∧ n.data.toList ≠ [97, 114, 116, 105, 99, 108, 101] ∧ n.data.toList ≠ [97, 115, 105, 100, 101] ∧ n.data.toList ≠ [98, 108, 111, 99, 107, 113, 117, 111, 116, 101] ∧ n.data.toList ≠ [99, 101, 110, 116, 101, 114] ∧ n.data.toList ≠ [100, 101, 116, 97, 105, 108, 115] ∧ n.data.toList ≠ [100, 105, 118] ∧ n.data.toList ≠ [100, 108] ∧ n.data.toList ≠ [102, 105, 101, 108, 100, 115, 101, 116] ∧ n.data.toList ≠ [102, 105, 103, 117, 114, 101] ∧ n.data.toList ≠ [102, 111, 111, 116, 101, 114] ∧ n.data.toList ≠ [102, 111, 114, 109] ∧ n.data.toList ≠ [104, 101, 97, 100, 101, 114] ∧ n.data.toList ≠ [104, 114] ∧ n.data.toList ≠ [108, 105] ∧ n.data.toList ≠ [109, 97, 105, 110] ∧ n.data.toList ≠ [110, 97, 118] ∧ n.data.toList ≠ [111, 108] ∧ n.data.toList ≠ [112] ∧ n.data.toList ≠ [112, 114, 101] ∧ n.data.toList ≠ [115, 101, 99, 116, 105, 111, 110] ∧ n.data.toList ≠ [116, 97, 98, 108, 101] ∧ n.data.toList ≠ [117, 108] ∧ n.data.toList ≠ [100, 100] ∧ n.data.toList ≠ [100, 116] ∧ n.data.toList ≠ [104, 49] ∧ n.data.toList ≠ [104, 50] ∧ n.data.toList ≠ [104, 51] ∧ n.data.toList ≠ [104, 52] ∧ n.data.toList ≠ [104, 53] ∧ n.data.toList ≠ [104, 54] := by simpa [blockNL] using hk
    obtain ⟨tn0, tn1, tn2, tn3, tn4, tn5, tn6, tn7, tn8, tn9, tn10, tn11, tn12, tn13, tn14, tn15, tn16, tn17, tn18, tn19, tn20, tn21, tn22, tn23, tn24, tn25, tn26, tn27, tn28, tn29, tn30⟩ := hc
    have HH := hide (hh false (by
      have : ¬ headNL.contains n.data.toList = true := by
        simp only [headNL, List.contains_cons, List.contains_nil, Bool.or_false, Bool.or_eq_true, beq_iff_eq, not_or]
        exact ⟨tn25, tn26, tn27, tn28, tn29, tn30⟩
      simpa using this))
    clear hk hh
    have t0 : (n.toList == [97, 100, 100, 114, 101, 115, 115]) = false := beq_eq_false_iff_ne.2 (by rw [bytes_list]; exact tn0)
    have t1 : (n.toList == [97, 114, 116, 105, 99, 108, 101]) = false := beq_eq_false_iff_ne.2 (by rw [bytes_list]; exact tn1)
    have t2 : (n.toList == [97, 115, 105, 100, 101]) = false := beq_eq_false_iff_ne.2 (by rw [bytes_list]; exact tn2)
    have t3 : (n.toList == [98, 108, 111, 99, 107, 113, 117, 111, 116, 101]) = false := beq_eq_false_iff_ne.2 (by rw [bytes_list]; exact tn3)
    have t4 : (n.toList == [99, 101, 110, 116, 101, 114]) = false := beq_eq_false_iff_ne.2 (by rw [bytes_list]; exact tn4)
    have t5 : (n.toList == [100, 101, 116, 97, 105, 108, 115]) = false := beq_eq_false_iff_ne.2 (by rw [bytes_list]; exact tn5)
    have t6 : (n.toList == [100, 105, 118]) = false := beq_eq_false_iff_ne.2 (by rw [bytes_list]; exact tn6)
    have t7 : (n.toList == [100, 108]) = false := beq_eq_false_iff_ne.2 (by rw [bytes_list]; exact tn7)
    have t8 : (n.toList == [102, 105, 101, 108, 100, 115, 101, 116]) = false := beq_eq_false_iff_ne.2 (by rw [bytes_list]; exact tn8)
    have t9 : (n.toList == [102, 105, 103, 117, 114, 101]) = false := beq_eq_false_iff_ne.2 (by rw [bytes_list]; exact tn9)
    have t10 : (n.toList == [102, 111, 111, 116, 101, 114]) = false := beq_eq_false_iff_ne.2 (by rw [bytes_list]; exact tn10)
    have t11 : (n.toList == [102, 111, 114, 109]) = false := beq_eq_false_iff_ne.2 (by rw [bytes_list]; exact tn11)
    have t12 : (n.toList == [104, 101, 97, 100, 101, 114]) = false := beq_eq_false_iff_ne.2 (by rw [bytes_list]; exact tn12)
    have t13 : (n.toList == [104, 114]) = false := beq_eq_false_iff_ne.2 (by rw [bytes_list]; exact tn13)
    have t14 : (n.toList == [108, 105]) = false := beq_eq_false_iff_ne.2 (by rw [bytes_list]; exact tn14)
    have t15 : (n.toList == [109, 97, 105, 110]) = false := beq_eq_false_iff_ne.2 (by rw [bytes_list]; exact tn15)
    have t16 : (n.toList == [110, 97, 118]) = false := beq_eq_false_iff_ne.2 (by rw [bytes_list]; exact tn16)
    have t17 : (n.toList == [111, 108]) = false := beq_eq_false_iff_ne.2 (by rw [bytes_list]; exact tn17)
    have t18 : (n.toList == [112]) = false := beq_eq_false_iff_ne.2 (by rw [bytes_list]; exact tn18)
    have t19 : (n.toList == [112, 114, 101]) = false := beq_eq_false_iff_ne.2 (by rw [bytes_list]; exact tn19)
    have t20 : (n.toList == [115, 101, 99, 116, 105, 111, 110]) = false := beq_eq_false_iff_ne.2 (by rw [bytes_list]; exact tn20)
    have t21 : (n.toList == [116, 97, 98, 108, 101]) = false := beq_eq_false_iff_ne.2 (by rw [bytes_list]; exact tn21)
    have t22 : (n.toList == [117, 108]) = false := beq_eq_false_iff_ne.2 (by rw [bytes_list]; exact tn22)
    have t23 : (n.toList == [100, 100]) = false := beq_eq_false_iff_ne.2 (by rw [bytes_list]; exact tn23)
    have t24 : (n.toList == [100, 116]) = false := beq_eq_false_iff_ne.2 (by rw [bytes_list]; exact tn24)
    clear tn0 tn1 tn2 tn3 tn4 tn5 tn6 tn7 tn8 tn9 tn10 tn11 tn12 tn13 tn14 tn15 tn16 tn17 tn18 tn19 tn20 tn21 tn22 tn23 tn24
    go_enter Tryz.func79, Tryz.ntmps79
    go_wp2_with fail
    refine HH.out.mono ?_
    rintro e w1 ⟨rfl, rfl⟩
    go_wp2_with fail
    go_ret
    exact ⟨rfl, rfl⟩
end Go.Proofs.YtiejmkjpgjbodaaGreatDoor
