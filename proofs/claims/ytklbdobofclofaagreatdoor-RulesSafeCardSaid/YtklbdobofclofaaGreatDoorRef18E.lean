/- WALKS: muslinref13.Raw, muslinref18.Element. No statement is proved here. Own work of the verifier. -/
import Derived.Test.YtklbdobofclofaaGreatDoorBaseN
namespace Go.Proofs.YtklbdobofclofaaGreatDoor
open Go.RowKit
set_option linter.unusedVariables false
set_option linter.unusedSimpArgs false
set_option maxRecDepth 100000
set_option maxHeartbeats 4000000 in
theorem ref13Raw_any (n : ByteArray) (w : World) :
    Calls Tryz.prog 21 #[.string n] w fun e w' => e = .returned (.bool (rawL.contains n.data.toList)) ∧ w = w' := by
  cases hk : rawL.contains n.data.toList with
  | true =>
    rcases rawL_cases _ hk with h | h | h | h | h | h | h | h | h | h
    · obtain rfl : n = ⟨#[115, 99, 114, 105, 112, 116]⟩ := ext_list h
      clear hk h
      go_enter Tryz.func21, Tryz.ntmps21
      go_wp2_with fail
      go_ret
      exact ⟨rfl, rfl⟩
    · obtain rfl : n = ⟨#[115, 116, 121, 108, 101]⟩ := ext_list h
      clear hk h
      go_enter Tryz.func21, Tryz.ntmps21
      go_wp2_with fail
      go_ret
      exact ⟨rfl, rfl⟩
    · obtain rfl : n = ⟨#[116, 105, 116, 108, 101]⟩ := ext_list h
      clear hk h
      go_enter Tryz.func21, Tryz.ntmps21
      go_wp2_with fail
      go_ret
      exact ⟨rfl, rfl⟩
    · obtain rfl : n = ⟨#[116, 101, 120, 116, 97, 114, 101, 97]⟩ := ext_list h
      clear hk h
      go_enter Tryz.func21, Tryz.ntmps21
      go_wp2_with fail
      go_ret
      exact ⟨rfl, rfl⟩
    · obtain rfl : n = ⟨#[120, 109, 112]⟩ := ext_list h
      clear hk h
      go_enter Tryz.func21, Tryz.ntmps21
      go_wp2_with fail
      go_ret
      exact ⟨rfl, rfl⟩
    · obtain rfl : n = ⟨#[105, 102, 114, 97, 109, 101]⟩ := ext_list h
      clear hk h
      go_enter Tryz.func21, Tryz.ntmps21
      go_wp2_with fail
      go_ret
      exact ⟨rfl, rfl⟩
    · obtain rfl : n = ⟨#[110, 111, 101, 109, 98, 101, 100]⟩ := ext_list h
      clear hk h
      go_enter Tryz.func21, Tryz.ntmps21
      go_wp2_with fail
      go_ret
      exact ⟨rfl, rfl⟩
    · obtain rfl : n = ⟨#[110, 111, 102, 114, 97, 109, 101, 115]⟩ := ext_list h
      clear hk h
      go_enter Tryz.func21, Tryz.ntmps21
      go_wp2_with fail
      go_ret
      exact ⟨rfl, rfl⟩
    · obtain rfl : n = ⟨#[112, 108, 97, 105, 110, 116, 101, 120, 116]⟩ := ext_list h
      clear hk h
      go_enter Tryz.func21, Tryz.ntmps21
      go_wp2_with fail
      go_ret
      exact ⟨rfl, rfl⟩
    · obtain rfl : n = ⟨#[110, 111, 115, 99, 114, 105, 112, 116]⟩ := ext_list h
      clear hk h
      go_enter Tryz.func21, Tryz.ntmps21
      go_wp2_with fail
      go_ret
      exact ⟨rfl, rfl⟩
  | false =>
    obtain ⟨n0, n1, n2, n3, n4, n5, n6, n7, n8, n9⟩ := rawL_none _ hk
    have t0 : (n.toList == [115, 99, 114, 105, 112, 116]) = false := beq_eq_false_iff_ne.2 (by rw [bytes_list]; exact n0)
    have t1 : (n.toList == [115, 116, 121, 108, 101]) = false := beq_eq_false_iff_ne.2 (by rw [bytes_list]; exact n1)
    have t2 : (n.toList == [116, 105, 116, 108, 101]) = false := beq_eq_false_iff_ne.2 (by rw [bytes_list]; exact n2)
    have t3 : (n.toList == [116, 101, 120, 116, 97, 114, 101, 97]) = false := beq_eq_false_iff_ne.2 (by rw [bytes_list]; exact n3)
    have t4 : (n.toList == [120, 109, 112]) = false := beq_eq_false_iff_ne.2 (by rw [bytes_list]; exact n4)
    have t5 : (n.toList == [105, 102, 114, 97, 109, 101]) = false := beq_eq_false_iff_ne.2 (by rw [bytes_list]; exact n5)
    have t6 : (n.toList == [110, 111, 101, 109, 98, 101, 100]) = false := beq_eq_false_iff_ne.2 (by rw [bytes_list]; exact n6)
    have t7 : (n.toList == [110, 111, 102, 114, 97, 109, 101, 115]) = false := beq_eq_false_iff_ne.2 (by rw [bytes_list]; exact n7)
    have t8 : (n.toList == [112, 108, 97, 105, 110, 116, 101, 120, 116]) = false := beq_eq_false_iff_ne.2 (by rw [bytes_list]; exact n8)
    have t9 : (n.toList == [110, 111, 115, 99, 114, 105, 112, 116]) = false := beq_eq_false_iff_ne.2 (by rw [bytes_list]; exact n9)
    clear hk n0 n1 n2 n3 n4 n5 n6 n7 n8 n9
    go_enter Tryz.func21, Tryz.ntmps21
    go_wp2_with fail
    go_ret
    exact ⟨rfl, rfl⟩
set_option maxHeartbeats 8000000 in
theorem ref18Element_any (n : ByteArray) (w : World) :
    Calls Tryz.prog 9 #[.string n] w fun e w' => e = .returned (.int .i64 ((elemN n.data.toList : Nat) : Int)) ∧ w = w' := by
  cases hk : staysL.contains n.data.toList with
  | true =>
    have hv : ((elemN n.data.toList : Nat) : Int) = 2 := by unfold elemN; rw [if_pos hk]; rfl
    rw [hv]
    clear hv
    rcases staysL_cases _ hk with h | h | h | h | h | h | h | h | h | h | h | h | h | h | h | h | h | h | h | h | h | h | h | h | h | h | h | h | h | h | h
    · obtain rfl : n = ⟨#[97]⟩ := ext_list h
      clear hk h
      go_enter Tryz.func9, Tryz.ntmps9
      go_wp2_with fail
      go_ret
      exact ⟨rfl, rfl⟩
    · obtain rfl : n = ⟨#[98]⟩ := ext_list h
      clear hk h
      go_enter Tryz.func9, Tryz.ntmps9
      go_wp2_with fail
      go_ret
      exact ⟨rfl, rfl⟩
    · obtain rfl : n = ⟨#[98, 108, 111, 99, 107, 113, 117, 111, 116, 101]⟩ := ext_list h
      clear hk h
      go_enter Tryz.func9, Tryz.ntmps9
      go_wp2_with fail
      go_ret
      exact ⟨rfl, rfl⟩
    · obtain rfl : n = ⟨#[98, 114]⟩ := ext_list h
      clear hk h
      go_enter Tryz.func9, Tryz.ntmps9
      go_wp2_with fail
      go_ret
      exact ⟨rfl, rfl⟩
    · obtain rfl : n = ⟨#[99, 111, 100, 101]⟩ := ext_list h
      clear hk h
      go_enter Tryz.func9, Tryz.ntmps9
      go_wp2_with fail
      go_ret
      exact ⟨rfl, rfl⟩
    · obtain rfl : n = ⟨#[100, 100]⟩ := ext_list h
      clear hk h
      go_enter Tryz.func9, Tryz.ntmps9
      go_wp2_with fail
      go_ret
      exact ⟨rfl, rfl⟩
    · obtain rfl : n = ⟨#[100, 105, 118]⟩ := ext_list h
      clear hk h
      go_enter Tryz.func9, Tryz.ntmps9
      go_wp2_with fail
      go_ret
      exact ⟨rfl, rfl⟩
    · obtain rfl : n = ⟨#[100, 108]⟩ := ext_list h
      clear hk h
      go_enter Tryz.func9, Tryz.ntmps9
      go_wp2_with fail
      go_ret
      exact ⟨rfl, rfl⟩
    · obtain rfl : n = ⟨#[100, 116]⟩ := ext_list h
      clear hk h
      go_enter Tryz.func9, Tryz.ntmps9
      go_wp2_with fail
      go_ret
      exact ⟨rfl, rfl⟩
    · obtain rfl : n = ⟨#[101, 109]⟩ := ext_list h
      clear hk h
      go_enter Tryz.func9, Tryz.ntmps9
      go_wp2_with fail
      go_ret
      exact ⟨rfl, rfl⟩
    · obtain rfl : n = ⟨#[104, 49]⟩ := ext_list h
      clear hk h
      go_enter Tryz.func9, Tryz.ntmps9
      go_wp2_with fail
      go_ret
      exact ⟨rfl, rfl⟩
    · obtain rfl : n = ⟨#[104, 50]⟩ := ext_list h
      clear hk h
      go_enter Tryz.func9, Tryz.ntmps9
      go_wp2_with fail
      go_ret
      exact ⟨rfl, rfl⟩
    · obtain rfl : n = ⟨#[104, 51]⟩ := ext_list h
      clear hk h
      go_enter Tryz.func9, Tryz.ntmps9
      go_wp2_with fail
      go_ret
      exact ⟨rfl, rfl⟩
    · obtain rfl : n = ⟨#[104, 52]⟩ := ext_list h
      clear hk h
      go_enter Tryz.func9, Tryz.ntmps9
      go_wp2_with fail
      go_ret
      exact ⟨rfl, rfl⟩
    · obtain rfl : n = ⟨#[104, 53]⟩ := ext_list h
      clear hk h
      go_enter Tryz.func9, Tryz.ntmps9
      go_wp2_with fail
      go_ret
      exact ⟨rfl, rfl⟩
    · obtain rfl : n = ⟨#[104, 54]⟩ := ext_list h
      clear hk h
      go_enter Tryz.func9, Tryz.ntmps9
      go_wp2_with fail
      go_ret
      exact ⟨rfl, rfl⟩
    · obtain rfl : n = ⟨#[104, 114]⟩ := ext_list h
      clear hk h
      go_enter Tryz.func9, Tryz.ntmps9
      go_wp2_with fail
      go_ret
      exact ⟨rfl, rfl⟩
    · obtain rfl : n = ⟨#[105]⟩ := ext_list h
      clear hk h
      go_enter Tryz.func9, Tryz.ntmps9
      go_wp2_with fail
      go_ret
      exact ⟨rfl, rfl⟩
    · obtain rfl : n = ⟨#[105, 109, 103]⟩ := ext_list h
      clear hk h
      go_enter Tryz.func9, Tryz.ntmps9
      go_wp2_with fail
      go_ret
      exact ⟨rfl, rfl⟩
    · obtain rfl : n = ⟨#[108, 105]⟩ := ext_list h
      clear hk h
      go_enter Tryz.func9, Tryz.ntmps9
      go_wp2_with fail
      go_ret
      exact ⟨rfl, rfl⟩
    · obtain rfl : n = ⟨#[111, 108]⟩ := ext_list h
      clear hk h
      go_enter Tryz.func9, Tryz.ntmps9
      go_wp2_with fail
      go_ret
      exact ⟨rfl, rfl⟩
    · obtain rfl : n = ⟨#[112]⟩ := ext_list h
      clear hk h
      go_enter Tryz.func9, Tryz.ntmps9
      go_wp2_with fail
      go_ret
      exact ⟨rfl, rfl⟩
    · obtain rfl : n = ⟨#[112, 114, 101]⟩ := ext_list h
      clear hk h
      go_enter Tryz.func9, Tryz.ntmps9
      go_wp2_with fail
      go_ret
      exact ⟨rfl, rfl⟩
    · obtain rfl : n = ⟨#[115]⟩ := ext_list h
      clear hk h
      go_enter Tryz.func9, Tryz.ntmps9
      go_wp2_with fail
      go_ret
      exact ⟨rfl, rfl⟩
    · obtain rfl : n = ⟨#[115, 109, 97, 108, 108]⟩ := ext_list h
      clear hk h
      go_enter Tryz.func9, Tryz.ntmps9
      go_wp2_with fail
      go_ret
      exact ⟨rfl, rfl⟩
    · obtain rfl : n = ⟨#[115, 112, 97, 110]⟩ := ext_list h
      clear hk h
      go_enter Tryz.func9, Tryz.ntmps9
      go_wp2_with fail
      go_ret
      exact ⟨rfl, rfl⟩
    · obtain rfl : n = ⟨#[115, 116, 114, 111, 110, 103]⟩ := ext_list h
      clear hk h
      go_enter Tryz.func9, Tryz.ntmps9
      go_wp2_with fail
      go_ret
      exact ⟨rfl, rfl⟩
    · obtain rfl : n = ⟨#[115, 117, 98]⟩ := ext_list h
      clear hk h
      go_enter Tryz.func9, Tryz.ntmps9
      go_wp2_with fail
      go_ret
      exact ⟨rfl, rfl⟩
    · obtain rfl : n = ⟨#[115, 117, 112]⟩ := ext_list h
      clear hk h
      go_enter Tryz.func9, Tryz.ntmps9
      go_wp2_with fail
      go_ret
      exact ⟨rfl, rfl⟩
    · obtain rfl : n = ⟨#[117]⟩ := ext_list h
      clear hk h
      go_enter Tryz.func9, Tryz.ntmps9
      go_wp2_with fail
      go_ret
      exact ⟨rfl, rfl⟩
    · obtain rfl : n = ⟨#[117, 108]⟩ := ext_list h
      clear hk h
      go_enter Tryz.func9, Tryz.ntmps9
      go_wp2_with fail
      go_ret
      exact ⟨rfl, rfl⟩
  | false =>
    cases hd : dropsL.contains n.data.toList with
    | true =>
      have hv : ((elemN n.data.toList : Nat) : Int) = 0 := by unfold elemN; rw [if_neg (by rw [hk]; decide), if_pos hd]; rfl
      rw [hv]
      clear hv
      rcases dropsL_cases _ hd with h | h | h | h | h | h | h | h | h | h | h | h | h | h | h | h | h | h | h | h | h
      · obtain rfl : n = ⟨#[97, 112, 112, 108, 101, 116]⟩ := ext_list h
        clear hk hd h
        go_enter Tryz.func9, Tryz.ntmps9
        go_wp2_with fail
        go_ret
        exact ⟨rfl, rfl⟩
      · obtain rfl : n = ⟨#[97, 117, 100, 105, 111]⟩ := ext_list h
        clear hk hd h
        go_enter Tryz.func9, Tryz.ntmps9
        go_wp2_with fail
        go_ret
        exact ⟨rfl, rfl⟩
      · obtain rfl : n = ⟨#[98, 97, 115, 101]⟩ := ext_list h
        clear hk hd h
        go_enter Tryz.func9, Tryz.ntmps9
        go_wp2_with fail
        go_ret
        exact ⟨rfl, rfl⟩
      · obtain rfl : n = ⟨#[98, 117, 116, 116, 111, 110]⟩ := ext_list h
        clear hk hd h
        go_enter Tryz.func9, Tryz.ntmps9
        go_wp2_with fail
        go_ret
        exact ⟨rfl, rfl⟩
      · obtain rfl : n = ⟨#[99, 97, 110, 118, 97, 115]⟩ := ext_list h
        clear hk hd h
        go_enter Tryz.func9, Tryz.ntmps9
        go_wp2_with fail
        go_ret
        exact ⟨rfl, rfl⟩
      · obtain rfl : n = ⟨#[101, 109, 98, 101, 100]⟩ := ext_list h
        clear hk hd h
        go_enter Tryz.func9, Tryz.ntmps9
        go_wp2_with fail
        go_ret
        exact ⟨rfl, rfl⟩
      · obtain rfl : n = ⟨#[102, 114, 97, 109, 101]⟩ := ext_list h
        clear hk hd h
        go_enter Tryz.func9, Tryz.ntmps9
        go_wp2_with fail
        go_ret
        exact ⟨rfl, rfl⟩
      · obtain rfl : n = ⟨#[102, 114, 97, 109, 101, 115, 101, 116]⟩ := ext_list h
        clear hk hd h
        go_enter Tryz.func9, Tryz.ntmps9
        go_wp2_with fail
        go_ret
        exact ⟨rfl, rfl⟩
      · obtain rfl : n = ⟨#[104, 101, 97, 100]⟩ := ext_list h
        clear hk hd h
        go_enter Tryz.func9, Tryz.ntmps9
        go_wp2_with fail
        go_ret
        exact ⟨rfl, rfl⟩
      · obtain rfl : n = ⟨#[105, 110, 112, 117, 116]⟩ := ext_list h
        clear hk hd h
        go_enter Tryz.func9, Tryz.ntmps9
        go_wp2_with fail
        go_ret
        exact ⟨rfl, rfl⟩
      · obtain rfl : n = ⟨#[108, 105, 110, 107]⟩ := ext_list h
        clear hk hd h
        go_enter Tryz.func9, Tryz.ntmps9
        go_wp2_with fail
        go_ret
        exact ⟨rfl, rfl⟩
      · obtain rfl : n = ⟨#[109, 97, 116, 104]⟩ := ext_list h
        clear hk hd h
        go_enter Tryz.func9, Tryz.ntmps9
        go_wp2_with fail
        go_ret
        exact ⟨rfl, rfl⟩
      · obtain rfl : n = ⟨#[109, 101, 116, 97]⟩ := ext_list h
        clear hk hd h
        go_enter Tryz.func9, Tryz.ntmps9
        go_wp2_with fail
        go_ret
        exact ⟨rfl, rfl⟩
      · obtain rfl : n = ⟨#[111, 98, 106, 101, 99, 116]⟩ := ext_list h
        clear hk hd h
        go_enter Tryz.func9, Tryz.ntmps9
        go_wp2_with fail
        go_ret
        exact ⟨rfl, rfl⟩
      · obtain rfl : n = ⟨#[111, 112, 116, 105, 111, 110]⟩ := ext_list h
        clear hk hd h
        go_enter Tryz.func9, Tryz.ntmps9
        go_wp2_with fail
        go_ret
        exact ⟨rfl, rfl⟩
      · obtain rfl : n = ⟨#[115, 101, 108, 101, 99, 116]⟩ := ext_list h
        clear hk hd h
        go_enter Tryz.func9, Tryz.ntmps9
        go_wp2_with fail
        go_ret
        exact ⟨rfl, rfl⟩
      · obtain rfl : n = ⟨#[115, 111, 117, 114, 99, 101]⟩ := ext_list h
        clear hk hd h
        go_enter Tryz.func9, Tryz.ntmps9
        go_wp2_with fail
        go_ret
        exact ⟨rfl, rfl⟩
      · obtain rfl : n = ⟨#[115, 118, 103]⟩ := ext_list h
        clear hk hd h
        go_enter Tryz.func9, Tryz.ntmps9
        go_wp2_with fail
        go_ret
        exact ⟨rfl, rfl⟩
      · obtain rfl : n = ⟨#[116, 101, 109, 112, 108, 97, 116, 101]⟩ := ext_list h
        clear hk hd h
        go_enter Tryz.func9, Tryz.ntmps9
        go_wp2_with fail
        go_ret
        exact ⟨rfl, rfl⟩
      · obtain rfl : n = ⟨#[116, 114, 97, 99, 107]⟩ := ext_list h
        clear hk hd h
        go_enter Tryz.func9, Tryz.ntmps9
        go_wp2_with fail
        go_ret
        exact ⟨rfl, rfl⟩
      · obtain rfl : n = ⟨#[118, 105, 100, 101, 111]⟩ := ext_list h
        clear hk hd h
        go_enter Tryz.func9, Tryz.ntmps9
        go_wp2_with fail
        go_ret
        exact ⟨rfl, rfl⟩
    | false =>
      obtain ⟨n0, n1, n2, n3, n4, n5, n6, n7, n8, n9, n10, n11, n12, n13, n14, n15, n16, n17, n18, n19, n20, n21, n22, n23, n24, n25, n26, n27, n28, n29, n30⟩ := staysL_none _ hk
      obtain ⟨m0, m1, m2, m3, m4, m5, m6, m7, m8, m9, m10, m11, m12, m13, m14, m15, m16, m17, m18, m19, m20⟩ := dropsL_none _ hd
      have t0 : (n.toList == [97]) = false := beq_eq_false_iff_ne.2 (by rw [bytes_list]; exact n0)
      have t1 : (n.toList == [98]) = false := beq_eq_false_iff_ne.2 (by rw [bytes_list]; exact n1)
      have t2 : (n.toList == [98, 108, 111, 99, 107, 113, 117, 111, 116, 101]) = false := beq_eq_false_iff_ne.2 (by rw [bytes_list]; exact n2)
      have t3 : (n.toList == [98, 114]) = false := beq_eq_false_iff_ne.2 (by rw [bytes_list]; exact n3)
      have t4 : (n.toList == [99, 111, 100, 101]) = false := beq_eq_false_iff_ne.2 (by rw [bytes_list]; exact n4)
      have t5 : (n.toList == [100, 100]) = false := beq_eq_false_iff_ne.2 (by rw [bytes_list]; exact n5)
      have t6 : (n.toList == [100, 105, 118]) = false := beq_eq_false_iff_ne.2 (by rw [bytes_list]; exact n6)
      have t7 : (n.toList == [100, 108]) = false := beq_eq_false_iff_ne.2 (by rw [bytes_list]; exact n7)
      have t8 : (n.toList == [100, 116]) = false := beq_eq_false_iff_ne.2 (by rw [bytes_list]; exact n8)
      have t9 : (n.toList == [101, 109]) = false := beq_eq_false_iff_ne.2 (by rw [bytes_list]; exact n9)
      have t10 : (n.toList == [104, 49]) = false := beq_eq_false_iff_ne.2 (by rw [bytes_list]; exact n10)
      have t11 : (n.toList == [104, 50]) = false := beq_eq_false_iff_ne.2 (by rw [bytes_list]; exact n11)
      have t12 : (n.toList == [104, 51]) = false := beq_eq_false_iff_ne.2 (by rw [bytes_list]; exact n12)
      have t13 : (n.toList == [104, 52]) = false := beq_eq_false_iff_ne.2 (by rw [bytes_list]; exact n13)
      have t14 : (n.toList == [104, 53]) = false := beq_eq_false_iff_ne.2 (by rw [bytes_list]; exact n14)
      have t15 : (n.toList == [104, 54]) = false := beq_eq_false_iff_ne.2 (by rw [bytes_list]; exact n15)
      have t16 : (n.toList == [104, 114]) = false := beq_eq_false_iff_ne.2 (by rw [bytes_list]; exact n16)
      have t17 : (n.toList == [105]) = false := beq_eq_false_iff_ne.2 (by rw [bytes_list]; exact n17)
      have t18 : (n.toList == [105, 109, 103]) = false := beq_eq_false_iff_ne.2 (by rw [bytes_list]; exact n18)
      have t19 : (n.toList == [108, 105]) = false := beq_eq_false_iff_ne.2 (by rw [bytes_list]; exact n19)
      have t20 : (n.toList == [111, 108]) = false := beq_eq_false_iff_ne.2 (by rw [bytes_list]; exact n20)
      have t21 : (n.toList == [112]) = false := beq_eq_false_iff_ne.2 (by rw [bytes_list]; exact n21)
      have t22 : (n.toList == [112, 114, 101]) = false := beq_eq_false_iff_ne.2 (by rw [bytes_list]; exact n22)
      have t23 : (n.toList == [115]) = false := beq_eq_false_iff_ne.2 (by rw [bytes_list]; exact n23)
      have t24 : (n.toList == [115, 109, 97, 108, 108]) = false := beq_eq_false_iff_ne.2 (by rw [bytes_list]; exact n24)
      have t25 : (n.toList == [115, 112, 97, 110]) = false := beq_eq_false_iff_ne.2 (by rw [bytes_list]; exact n25)
      have t26 : (n.toList == [115, 116, 114, 111, 110, 103]) = false := beq_eq_false_iff_ne.2 (by rw [bytes_list]; exact n26)
      have t27 : (n.toList == [115, 117, 98]) = false := beq_eq_false_iff_ne.2 (by rw [bytes_list]; exact n27)
      have t28 : (n.toList == [115, 117, 112]) = false := beq_eq_false_iff_ne.2 (by rw [bytes_list]; exact n28)
      have t29 : (n.toList == [117]) = false := beq_eq_false_iff_ne.2 (by rw [bytes_list]; exact n29)
      have t30 : (n.toList == [117, 108]) = false := beq_eq_false_iff_ne.2 (by rw [bytes_list]; exact n30)
      have u0 : (n.toList == [97, 112, 112, 108, 101, 116]) = false := beq_eq_false_iff_ne.2 (by rw [bytes_list]; exact m0)
      have u1 : (n.toList == [97, 117, 100, 105, 111]) = false := beq_eq_false_iff_ne.2 (by rw [bytes_list]; exact m1)
      have u2 : (n.toList == [98, 97, 115, 101]) = false := beq_eq_false_iff_ne.2 (by rw [bytes_list]; exact m2)
      have u3 : (n.toList == [98, 117, 116, 116, 111, 110]) = false := beq_eq_false_iff_ne.2 (by rw [bytes_list]; exact m3)
      have u4 : (n.toList == [99, 97, 110, 118, 97, 115]) = false := beq_eq_false_iff_ne.2 (by rw [bytes_list]; exact m4)
      have u5 : (n.toList == [101, 109, 98, 101, 100]) = false := beq_eq_false_iff_ne.2 (by rw [bytes_list]; exact m5)
      have u6 : (n.toList == [102, 114, 97, 109, 101]) = false := beq_eq_false_iff_ne.2 (by rw [bytes_list]; exact m6)
      have u7 : (n.toList == [102, 114, 97, 109, 101, 115, 101, 116]) = false := beq_eq_false_iff_ne.2 (by rw [bytes_list]; exact m7)
      have u8 : (n.toList == [104, 101, 97, 100]) = false := beq_eq_false_iff_ne.2 (by rw [bytes_list]; exact m8)
      have u9 : (n.toList == [105, 110, 112, 117, 116]) = false := beq_eq_false_iff_ne.2 (by rw [bytes_list]; exact m9)
      have u10 : (n.toList == [108, 105, 110, 107]) = false := beq_eq_false_iff_ne.2 (by rw [bytes_list]; exact m10)
      have u11 : (n.toList == [109, 97, 116, 104]) = false := beq_eq_false_iff_ne.2 (by rw [bytes_list]; exact m11)
      have u12 : (n.toList == [109, 101, 116, 97]) = false := beq_eq_false_iff_ne.2 (by rw [bytes_list]; exact m12)
      have u13 : (n.toList == [111, 98, 106, 101, 99, 116]) = false := beq_eq_false_iff_ne.2 (by rw [bytes_list]; exact m13)
      have u14 : (n.toList == [111, 112, 116, 105, 111, 110]) = false := beq_eq_false_iff_ne.2 (by rw [bytes_list]; exact m14)
      have u15 : (n.toList == [115, 101, 108, 101, 99, 116]) = false := beq_eq_false_iff_ne.2 (by rw [bytes_list]; exact m15)
      have u16 : (n.toList == [115, 111, 117, 114, 99, 101]) = false := beq_eq_false_iff_ne.2 (by rw [bytes_list]; exact m16)
      have u17 : (n.toList == [115, 118, 103]) = false := beq_eq_false_iff_ne.2 (by rw [bytes_list]; exact m17)
      have u18 : (n.toList == [116, 101, 109, 112, 108, 97, 116, 101]) = false := beq_eq_false_iff_ne.2 (by rw [bytes_list]; exact m18)
      have u19 : (n.toList == [116, 114, 97, 99, 107]) = false := beq_eq_false_iff_ne.2 (by rw [bytes_list]; exact m19)
      have u20 : (n.toList == [118, 105, 100, 101, 111]) = false := beq_eq_false_iff_ne.2 (by rw [bytes_list]; exact m20)
      cases hr : rawL.contains n.data.toList with
      | true =>
        have hv : ((elemN n.data.toList : Nat) : Int) = 0 := by unfold elemN; rw [if_neg (by rw [hk]; decide), if_neg (by rw [hd]; decide), if_pos hr]; rfl
        rw [hv]
        have HR := hide hr
        clear hv hk hd hr n0 n1 n2 n3 n4 n5 n6 n7 n8 n9 n10 n11 n12 n13 n14 n15 n16 n17 n18 n19 n20 n21 n22 n23 n24 n25 n26 n27 n28 n29 n30 m0 m1 m2 m3 m4 m5 m6 m7 m8 m9 m10 m11 m12 m13 m14 m15 m16 m17 m18 m19 m20
        go_enter Tryz.func9, Tryz.ntmps9
        go_wp2_with fail
        refine (ref13Raw_any n _).mono ?_
        rintro e w1 ⟨rfl, rfl⟩
        rw [HR.out]
        go_wp2_with fail
        go_ret
        exact ⟨rfl, rfl⟩
      | false =>
        have hv : ((elemN n.data.toList : Nat) : Int) = 1 := by unfold elemN; rw [if_neg (by rw [hk]; decide), if_neg (by rw [hd]; decide), if_neg (by rw [hr]; decide)]; rfl
        rw [hv]
        have HR := hide hr
        clear hv hk hd hr n0 n1 n2 n3 n4 n5 n6 n7 n8 n9 n10 n11 n12 n13 n14 n15 n16 n17 n18 n19 n20 n21 n22 n23 n24 n25 n26 n27 n28 n29 n30 m0 m1 m2 m3 m4 m5 m6 m7 m8 m9 m10 m11 m12 m13 m14 m15 m16 m17 m18 m19 m20
        go_enter Tryz.func9, Tryz.ntmps9
        go_wp2_with fail
        refine (ref13Raw_any n _).mono ?_
        rintro e w1 ⟨rfl, rfl⟩
        rw [HR.out]
        go_wp2_with fail
        go_ret
        exact ⟨rfl, rfl⟩
end Go.Proofs.YtklbdobofclofaaGreatDoor
