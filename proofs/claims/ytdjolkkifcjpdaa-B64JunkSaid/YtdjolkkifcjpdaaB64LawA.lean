/- WALKS of the laws B64Sizes, B64Joined, B64Back, B64Junk. No statement is proved here. -/
import Derived.Test.YtdjolkkifcjpdaaB64Law0
import Derived.Test.YtdjolkkifcjpdaaB64Math
namespace Go.Proofs.Ytdjolkkifcjpdaa
open Go.RowKit
set_option linter.unusedVariables false
set_option linter.unusedSimpArgs false

set_option maxHeartbeats 1000000 in
theorem law_B64Sizes (s : ByteArray) (hs : s.size ≤ maxLen) (w : World) :
    Calls Try.prog 6 #[.string s] w fun e w' => e = .returned (.bool true) ∧ Below w.heap.size w w' := by
  by_cases h3 : s.size ≤ 5000
  · have HD : Hid (decide (s.size ≤ 5000) = true) := decide_eq_true h3
    have hz1 : (str (encB s.data.toList)).size = (s.size + 2) / 3 * 4 := by rw [str_size, encB_len, toList_length]
    have hz2 : (str (decB s.data.toList)).size ≤ s.size * 3 / 4 := by rw [str_size]; have := decB_len s.data.toList; rw [toList_length] at this; exact this
    obtain ⟨t, ht⟩ : ∃ t, t = str (encB s.data.toList) := ⟨_, rfl⟩
    obtain ⟨u, hu⟩ : ∃ u, u = str (decB s.data.toList) := ⟨_, rfl⟩
    rw [← ht] at hz1
    rw [← hu] at hz2
    have t1 : ((t.size : Int) == ((s.size : Int) + 2) / 3 * 4) = true := by rw [beq_iff_eq]; omega
    have t2 : (u.size : Int) ≤ (s.size : Int) * 3 / 4 := by omega
    have HT := hide ht
    have HU := hide hu
    clear ht hu hz1 hz2
    go_enter Try.func6, Try.ntmps6
    go_wp2_with fail
    refine (short1_any _ _ hs).mono ?_
    rintro e w1 ⟨rfl, rfl⟩
    rw [HD.out]
    go_wp2_with fail
    refine (encode64_any _ _ (by omega)).mono ?_
    rintro e w1 ⟨rfl, hb1⟩
    rw [← HT.out]
    go_wp2_with fail
    refine (decode64_any _ _ (by omega)).mono ?_
    rintro e w2 ⟨rfl, hb2⟩
    rw [← HU.out]
    go_wp2_with fail
    refine (live1_any _).mono ?_
    rintro e w3 ⟨rfl, hb3⟩
    go_wp2_with fail
    go_ret
    have k2 := hb1.trans (hb2.mono hb1.size)
    exact ⟨rfl, k2.trans (hb3.mono k2.size)⟩
  · have HD : Hid (decide (s.size ≤ 5000) = false) := decide_eq_false h3
    go_enter Try.func6, Try.ntmps6
    go_wp2_with fail
    refine (short1_any _ _ hs).mono ?_
    rintro e w1 ⟨rfl, rfl⟩
    rw [HD.out]
    go_wp2_with fail
    refine (live1_any _).mono ?_
    rintro e w1 ⟨rfl, hb1⟩
    go_wp2_with fail
    go_ret
    exact ⟨rfl, hb1⟩

set_option maxHeartbeats 2000000 in
theorem law_B64Joined (s : ByteArray) (hs : s.size ≤ maxLen) (t : ByteArray) (ht : t.size ≤ maxLen) (w : World) :
    Calls Try.prog 7 #[.string s, .string t] w fun e w' => e = .returned (.bool true) ∧ Below w.heap.size w w' := by
  by_cases h3 : s.size ≤ 5000
  · have HD : Hid (decide (s.size ≤ 5000) = true) := decide_eq_true h3
    by_cases h4 : t.size ≤ 5000
    · have HE : Hid (decide (t.size ≤ 5000) = true) := decide_eq_true h4
      by_cases h5 : s.size % 3 = 0
      · have t1 : (((s.size : Int) % 3) != 0) = false := by simp; omega
        have H5 := hide h5
        have hq : str (encB (s ++ t).data.toList) = str (encB s.data.toList) ++ str (encB t.data.toList) := by
          rw [ByteArray.data_append, Array.toList_append, encB_append _ _ (by rw [toList_length]; exact h5), str_append]
        have HQ := hide hq
        have hst : (s ++ t).size ≤ 100000 := by rw [ByteArray.size_append]; omega
        have z1 : (str (encB s.data.toList)).size ≤ 20000 := by rw [str_size, encB_len, toList_length]; omega
        have z2 : (str (encB t.data.toList)).size ≤ 20000 := by rw [str_size, encB_len, toList_length]; omega
        clear h5 hq
        go_enter Try.func7, Try.ntmps7
        go_wp2_with fail
        refine (short1_any _ _ hs).mono ?_
        rintro e w1 ⟨rfl, rfl⟩
        rw [HD.out]
        go_wp2_with fail
        refine (short1_any _ _ ht).mono ?_
        rintro e w1 ⟨rfl, rfl⟩
        rw [HE.out]
        go_wp2_with fail
        refine (encode64_any _ _ hst).mono ?_
        rintro e w1 ⟨rfl, hb1⟩
        rw [HQ.out]
        go_wp2_with fail
        refine (encode64_any _ _ (by omega)).mono ?_
        rintro e w2 ⟨rfl, hb2⟩
        go_wp2_with fail
        refine (encode64_any _ _ (by omega)).mono ?_
        rintro e w3 ⟨rfl, hb3⟩
        go_wp2_with fail
        refine (live1_any _).mono ?_
        rintro e w4 ⟨rfl, hb4⟩
        go_wp2_with fail
        go_ret
        have k2 := hb1.trans (hb2.mono hb1.size)
        have k3 := k2.trans (hb3.mono k2.size)
        exact ⟨rfl, k3.trans (hb4.mono k3.size)⟩
      · have t1 : (((s.size : Int) % 3) != 0) = true := by simp; omega
        clear h5
        go_enter Try.func7, Try.ntmps7
        go_wp2_with fail
        refine (short1_any _ _ hs).mono ?_
        rintro e w1 ⟨rfl, rfl⟩
        rw [HD.out]
        go_wp2_with fail
        refine (short1_any _ _ ht).mono ?_
        rintro e w1 ⟨rfl, rfl⟩
        rw [HE.out]
        go_wp2_with fail
        refine (live1_any _).mono ?_
        rintro e w4 ⟨rfl, hb4⟩
        go_wp2_with fail
        go_ret
        exact ⟨rfl, hb4⟩
    · have HE : Hid (decide (t.size ≤ 5000) = false) := decide_eq_false h4
      go_enter Try.func7, Try.ntmps7
      go_wp2_with fail
      refine (short1_any _ _ hs).mono ?_
      rintro e w1 ⟨rfl, rfl⟩
      rw [HD.out]
      go_wp2_with fail
      refine (short1_any _ _ ht).mono ?_
      rintro e w1 ⟨rfl, rfl⟩
      rw [HE.out]
      go_wp2_with fail
      refine (live1_any _).mono ?_
      rintro e w4 ⟨rfl, hb4⟩
      go_wp2_with fail
      go_ret
      exact ⟨rfl, hb4⟩
  · have HD : Hid (decide (s.size ≤ 5000) = false) := decide_eq_false h3
    go_enter Try.func7, Try.ntmps7
    go_wp2_with fail
    refine (short1_any _ _ hs).mono ?_
    rintro e w1 ⟨rfl, rfl⟩
    rw [HD.out]
    go_wp2_with fail
    refine (live1_any _).mono ?_
    rintro e w4 ⟨rfl, hb4⟩
    go_wp2_with fail
    go_ret
    exact ⟨rfl, hb4⟩

set_option maxHeartbeats 2000000 in
theorem law_B64Back (s : ByteArray) (hs : s.size ≤ maxLen) (z : Int) (hz : (Lit.int .i64 z).wf = true) (b : ByteArray) (hbz : b.size ≤ maxLen) (w : World) :
    Calls Try.prog 5 #[.string s, .int .i64 z, .string b] w fun e w' => e = .returned (.bool true) ∧ Below w.heap.size w w' := by
  have hz1 : z ≤ 9223372036854775807 := by
    have h := hz
    have hmax : IntKind.i64.max = 9223372036854775807 := rfl
    simp only [Lit.wf, Bool.and_eq_true, decide_eq_true_eq] at h
    omega
  by_cases h3 : s.size ≤ 5000
  · have HD : Hid (decide (s.size ≤ 5000) = true) := decide_eq_true h3
    by_cases h4 : b.size ≤ 5000
    · have HE : Hid (decide (b.size ≤ 5000) = true) := decide_eq_true h4
      obtain ⟨n, hn⟩ : ∃ n : Nat, max z 1 = (n : Int) := ⟨(max z 1).toNat, by omega⟩
      have hn1 : 0 < n := by omega
      obtain ⟨t, ht⟩ : ∃ t, t = str (encB s.data.toList) := ⟨_, rfl⟩
      obtain ⟨u, hu⟩ : ∃ u, u = str (wrapL n (encB s.data.toList)) := ⟨_, rfl⟩
      have tz : t.size ≤ 20000 := by rw [ht, str_size, encB_len, toList_length]; omega
      have HA : Hid (str (decB t.data.toList) = s) := by rw [ht, str_toList, decB_encB, str_of]; exact hide rfl
      have HB : Hid (str (decB u.data.toList) = s) := by rw [hu, str_toList, decB_wrap n hn1, str_of]; exact hide rfl
      have HC : Hid (str (decB (⟨#[32, 10]⟩ ++ t ++ ⟨#[61]⟩ ++ b : ByteArray).data.toList) = s) := by
        have e : (⟨#[32, 10]⟩ ++ t ++ ⟨#[61]⟩ ++ b : ByteArray).data.toList = [32, 10] ++ encB s.data.toList ++ [61] ++ b.data.toList := by
          rw [ht]; simp [str]
        rw [e, decB_around, str_of]; exact hide rfl
      have uz : u.size ≤ 1048576 := by rw [hu, str_size]; exact wrapL_small n hn1 _ (by rw [encB_len, toList_length]; omega)
      have k1 : (⟨#[32, 10]⟩ : ByteArray).size = 2 := rfl
      have k2 : (⟨#[61]⟩ : ByteArray).size = 1 := rfl
      have vz : (⟨#[32, 10]⟩ ++ t ++ ⟨#[61]⟩ ++ b : ByteArray).size ≤ 1048576 := by
        rw [ByteArray.size_append, ByteArray.size_append, ByteArray.size_append, k1, k2]; omega
      have HT := hide ht
      have HU := hide hu
      have HN := hide hn
      clear ht hu hn
      go_enter Try.func5, Try.ntmps5
      go_wp2_with fail
      refine (short1_any _ _ hs).mono ?_
      rintro e w1 ⟨rfl, rfl⟩
      rw [HD.out]
      go_wp2_with fail
      refine (short1_any _ _ hbz).mono ?_
      rintro e w1 ⟨rfl, rfl⟩
      rw [HE.out]
      go_wp2_with fail
      refine (encode64_any _ _ (by omega)).mono ?_
      rintro e w1 ⟨rfl, hb1⟩
      rw [← HT.out]
      go_wp2_with fail
      refine (decode64_any _ _ (by omega)).mono ?_
      rintro e w2 ⟨rfl, hb2⟩
      rw [HA.out]
      go_wp2_with fail
      refine (wrap_any _ z n _ (by omega) hz1 HN.out).mono ?_
      rintro e w3 ⟨rfl, hb3⟩
      rw [← HU.out]
      go_wp2_with fail
      refine (decode64_any _ _ uz).mono ?_
      rintro e w4 ⟨rfl, hb4⟩
      rw [HB.out]
      go_wp2_with fail
      refine (encode64_any _ _ (by omega)).mono ?_
      rintro e w5 ⟨rfl, hb5⟩
      rw [← HT.out]
      go_wp2_with fail
      refine (decode64_any _ _ vz).mono ?_
      rintro e w6 ⟨rfl, hb6⟩
      rw [HC.out]
      go_wp2_with fail
      refine (live1_any _).mono ?_
      rintro e w7 ⟨rfl, hb7⟩
      go_wp2_with fail
      go_ret
      have l2 := hb1.trans (hb2.mono hb1.size)
      have l3 := l2.trans (hb3.mono l2.size)
      have l4 := l3.trans (hb4.mono l3.size)
      have l5 := l4.trans (hb5.mono l4.size)
      have l6 := l5.trans (hb6.mono l5.size)
      exact ⟨rfl, l6.trans (hb7.mono l6.size)⟩
    · have HE : Hid (decide (b.size ≤ 5000) = false) := decide_eq_false h4
      go_enter Try.func5, Try.ntmps5
      go_wp2_with fail
      refine (short1_any _ _ hs).mono ?_
      rintro e w1 ⟨rfl, rfl⟩
      rw [HD.out]
      go_wp2_with fail
      refine (short1_any _ _ hbz).mono ?_
      rintro e w1 ⟨rfl, rfl⟩
      rw [HE.out]
      go_wp2_with fail
      refine (live1_any _).mono ?_
      rintro e w4 ⟨rfl, hb4⟩
      go_wp2_with fail
      go_ret
      exact ⟨rfl, hb4⟩
  · have HD : Hid (decide (s.size ≤ 5000) = false) := decide_eq_false h3
    go_enter Try.func5, Try.ntmps5
    go_wp2_with fail
    refine (short1_any _ _ hs).mono ?_
    rintro e w1 ⟨rfl, rfl⟩
    rw [HD.out]
    go_wp2_with fail
    refine (live1_any _).mono ?_
    rintro e w4 ⟨rfl, hb4⟩
    go_wp2_with fail
    go_ret
    exact ⟨rfl, hb4⟩
end Go.Proofs.Ytdjolkkifcjpdaa
