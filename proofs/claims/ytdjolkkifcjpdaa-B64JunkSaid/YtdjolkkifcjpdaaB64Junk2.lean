/- WALK of the law B64Junk where it asks something. No statement is proved here. -/
import Derived.Test.YtdjolkkifcjpdaaB64JunkLaw
namespace Go.Proofs.Ytdjolkkifcjpdaa
open Go.RowKit
set_option linter.unusedVariables false
set_option linter.unusedSimpArgs false

theorem conv1d (w : World) (x : Int) : (convert 29 9 (.slice (some ⟨w.heap.size, 0, none⟩) 1 1)).run Try.prog (w.alloc (.cells #[.int .u8 x] 5)).drew = .ok (.string (strOfNums [x])) (w.alloc (.cells #[.int .u8 x] 5)).drew :=
  run_convert_bytes_arg (P := Try.prog) _ 29 5 Try.underlying29 Try.underlying5 w.heap.size 0 1 1 [x] rfl (fun i hi => by
    obtain rfl : i = 0 := by omega
    show (w.alloc (.cells #[.int .u8 x] 5)).cell? _ = _
    rw [World.cell?_alloc_at _ _ _ _ (by simp)]; rfl) 9 Try.underlying9

set_option maxHeartbeats 2000000 in
theorem junk_real1 (s : ByteArray) (hs : s.size ≤ 2000) (z : Int) (c : UInt8) (w : World) (h0 : 0 ≤ z) (hz1 : z ≤ 9223372036854775807)
    (h : ¬ (c.toNat = 61 ∨ c.toNat = 43 ∨ c.toNat = 47 ∨ (48 ≤ c.toNat ∧ c.toNat ≤ 57) ∨ (97 ≤ c.toNat ∧ c.toNat ≤ 122) ∨ (65 ≤ c.toNat ∧ c.toNat ≤ 90))) (hr : c.toNat < 48) :
    Calls Try.prog 8 #[.string s, .int .i64 z, .int .u8 c.toNat] w fun e w' => e = .returned (.bool true) ∧ Below w.heap.size w w' := by
  have hc := byte_lt c
  have hj := junk_facts c h
  have e1 : ((c.toNat : Int) == 61) = false := by rw [beq_eq_false_iff_ne]; omega
  have e2 : ((c.toNat : Int) == 43) = false := by rw [beq_eq_false_iff_ne]; omega
  have e3 : ((c.toNat : Int) == 47) = false := by rw [beq_eq_false_iff_ne]; omega
  obtain ⟨t, ht⟩ : ∃ t, t = str (encB s.data.toList) := ⟨_, rfl⟩
  have tz : t.size ≤ 20000 := by rw [ht, str_size, encB_len, toList_length]; omega
  have tl : t.data.toList = encB s.data.toList := by rw [ht, str_toList]
  obtain ⟨m, rfl⟩ := Int.eq_ofNat_of_zero_le h0
  obtain ⟨k, hk⟩ : ∃ k, k = m % (t.size + 1) := ⟨_, rfl⟩
  have hk1 : k ≤ t.size := by rw [hk]; have := Nat.mod_lt m (show 0 < t.size + 1 by omega); omega
  have hkm : (m : Int) % ((t.size : Int) + 1) = k := by rw [hk]; simp
  have hcv := conv1
  have hcd := conv1d
  have HJ : Hid (str (decB (t.extract 0 k ++ str [c] ++ t.extract k t.size : ByteArray).data.toList) = s) := by
    have e : (t.extract 0 k ++ str [c] ++ t.extract k t.size : ByteArray).data.toList = (encB s.data.toList).take k ++ [c] ++ (encB s.data.toList).drop k := by
      rw [ByteArray.data_append, Array.toList_append, ByteArray.data_append, Array.toList_append, extract_list, extract_end, tl, str_toList, List.drop_zero]
    rw [e, decB_junk _ _ _ hj.1 hj.2, str_of]
    exact hide rfl
  have hnum : strOfNums [(c.toNat : Int)] = str [c] := nums_str (by simp)
  have hz3 : (str [c]).size = 1 := rfl
  have x1 := extract_size_le t 0 k
  have x2 := extract_size_le t k t.size
  have xz : (t.extract 0 k ++ str [c] ++ t.extract k t.size : ByteArray).size ≤ 1048576 := by
    rw [ByteArray.size_append, ByteArray.size_append, hz3]; omega
  have HT := hide ht
  clear ht tl hk hj h h0
  have HXZ := hide xz
  clear xz
  go_enter Try.func8, Try.ntmps8
  go_wp2_with fail
  refine (encode64_any _ _ (by omega)).mono ?_
  rintro e w1 ⟨rfl, hb1⟩
  rw [← HT.out]
  go_wp2_with fail
  go_region_with (first
    | (go_at_call 21; refine (decode64_any _ _ HXZ.out).mono ?_; rintro e w2 ⟨rfl, hb2⟩; rw [HJ.out])
    | (go_at_call 16; refine (live1_any _).mono ?_; rintro e w3 ⟨rfl, hb3⟩))
  all_goals
    try go_wp2_with fail
    go_ret
    refine ⟨by rfl, ?_⟩
    have q1 := (hb1.alloc hb1.size (.cells #[.int .u8 c.toNat] 5)).drew
    have q2 := q1.trans (hb2.mono q1.size)
    exact q2.trans (hb3.mono q2.size)


set_option maxHeartbeats 2000000 in
theorem junk_real2 (s : ByteArray) (hs : s.size ≤ 2000) (z : Int) (c : UInt8) (w : World) (h0 : 0 ≤ z) (hz1 : z ≤ 9223372036854775807)
    (h : ¬ (c.toNat = 61 ∨ c.toNat = 43 ∨ c.toNat = 47 ∨ (48 ≤ c.toNat ∧ c.toNat ≤ 57) ∨ (97 ≤ c.toNat ∧ c.toNat ≤ 122) ∨ (65 ≤ c.toNat ∧ c.toNat ≤ 90))) (hr : 57 < c.toNat ∧ c.toNat < 65) :
    Calls Try.prog 8 #[.string s, .int .i64 z, .int .u8 c.toNat] w fun e w' => e = .returned (.bool true) ∧ Below w.heap.size w w' := by
  have hc := byte_lt c
  have hj := junk_facts c h
  have e1 : ((c.toNat : Int) == 61) = false := by rw [beq_eq_false_iff_ne]; omega
  have e2 : ((c.toNat : Int) == 43) = false := by rw [beq_eq_false_iff_ne]; omega
  have e3 : ((c.toNat : Int) == 47) = false := by rw [beq_eq_false_iff_ne]; omega
  obtain ⟨t, ht⟩ : ∃ t, t = str (encB s.data.toList) := ⟨_, rfl⟩
  have tz : t.size ≤ 20000 := by rw [ht, str_size, encB_len, toList_length]; omega
  have tl : t.data.toList = encB s.data.toList := by rw [ht, str_toList]
  obtain ⟨m, rfl⟩ := Int.eq_ofNat_of_zero_le h0
  obtain ⟨k, hk⟩ : ∃ k, k = m % (t.size + 1) := ⟨_, rfl⟩
  have hk1 : k ≤ t.size := by rw [hk]; have := Nat.mod_lt m (show 0 < t.size + 1 by omega); omega
  have hkm : (m : Int) % ((t.size : Int) + 1) = k := by rw [hk]; simp
  have hcv := conv1
  have hcd := conv1d
  have HJ : Hid (str (decB (t.extract 0 k ++ str [c] ++ t.extract k t.size : ByteArray).data.toList) = s) := by
    have e : (t.extract 0 k ++ str [c] ++ t.extract k t.size : ByteArray).data.toList = (encB s.data.toList).take k ++ [c] ++ (encB s.data.toList).drop k := by
      rw [ByteArray.data_append, Array.toList_append, ByteArray.data_append, Array.toList_append, extract_list, extract_end, tl, str_toList, List.drop_zero]
    rw [e, decB_junk _ _ _ hj.1 hj.2, str_of]
    exact hide rfl
  have hnum : strOfNums [(c.toNat : Int)] = str [c] := nums_str (by simp)
  have hz3 : (str [c]).size = 1 := rfl
  have x1 := extract_size_le t 0 k
  have x2 := extract_size_le t k t.size
  have xz : (t.extract 0 k ++ str [c] ++ t.extract k t.size : ByteArray).size ≤ 1048576 := by
    rw [ByteArray.size_append, ByteArray.size_append, hz3]; omega
  have HT := hide ht
  clear ht tl hk hj h h0
  have HXZ := hide xz
  clear xz
  obtain ⟨r1, r2⟩ := hr
  go_enter Try.func8, Try.ntmps8
  go_wp2_with fail
  refine (encode64_any _ _ (by omega)).mono ?_
  rintro e w1 ⟨rfl, hb1⟩
  rw [← HT.out]
  go_wp2_with fail
  go_region_with (first
    | (go_at_call 21; refine (decode64_any _ _ HXZ.out).mono ?_; rintro e w2 ⟨rfl, hb2⟩; rw [HJ.out])
    | (go_at_call 16; refine (live1_any _).mono ?_; rintro e w3 ⟨rfl, hb3⟩))
  all_goals
    try go_wp2_with fail
    go_ret
    refine ⟨by rfl, ?_⟩
    have q1 := (hb1.alloc hb1.size (.cells #[.int .u8 c.toNat] 5)).drew
    have q2 := q1.trans (hb2.mono q1.size)
    exact q2.trans (hb3.mono q2.size)


set_option maxHeartbeats 2000000 in
theorem junk_real3 (s : ByteArray) (hs : s.size ≤ 2000) (z : Int) (c : UInt8) (w : World) (h0 : 0 ≤ z) (hz1 : z ≤ 9223372036854775807)
    (h : ¬ (c.toNat = 61 ∨ c.toNat = 43 ∨ c.toNat = 47 ∨ (48 ≤ c.toNat ∧ c.toNat ≤ 57) ∨ (97 ≤ c.toNat ∧ c.toNat ≤ 122) ∨ (65 ≤ c.toNat ∧ c.toNat ≤ 90))) (hr : 90 < c.toNat ∧ c.toNat < 97) :
    Calls Try.prog 8 #[.string s, .int .i64 z, .int .u8 c.toNat] w fun e w' => e = .returned (.bool true) ∧ Below w.heap.size w w' := by
  have hc := byte_lt c
  have hj := junk_facts c h
  have e1 : ((c.toNat : Int) == 61) = false := by rw [beq_eq_false_iff_ne]; omega
  have e2 : ((c.toNat : Int) == 43) = false := by rw [beq_eq_false_iff_ne]; omega
  have e3 : ((c.toNat : Int) == 47) = false := by rw [beq_eq_false_iff_ne]; omega
  obtain ⟨t, ht⟩ : ∃ t, t = str (encB s.data.toList) := ⟨_, rfl⟩
  have tz : t.size ≤ 20000 := by rw [ht, str_size, encB_len, toList_length]; omega
  have tl : t.data.toList = encB s.data.toList := by rw [ht, str_toList]
  obtain ⟨m, rfl⟩ := Int.eq_ofNat_of_zero_le h0
  obtain ⟨k, hk⟩ : ∃ k, k = m % (t.size + 1) := ⟨_, rfl⟩
  have hk1 : k ≤ t.size := by rw [hk]; have := Nat.mod_lt m (show 0 < t.size + 1 by omega); omega
  have hkm : (m : Int) % ((t.size : Int) + 1) = k := by rw [hk]; simp
  have hcv := conv1
  have hcd := conv1d
  have HJ : Hid (str (decB (t.extract 0 k ++ str [c] ++ t.extract k t.size : ByteArray).data.toList) = s) := by
    have e : (t.extract 0 k ++ str [c] ++ t.extract k t.size : ByteArray).data.toList = (encB s.data.toList).take k ++ [c] ++ (encB s.data.toList).drop k := by
      rw [ByteArray.data_append, Array.toList_append, ByteArray.data_append, Array.toList_append, extract_list, extract_end, tl, str_toList, List.drop_zero]
    rw [e, decB_junk _ _ _ hj.1 hj.2, str_of]
    exact hide rfl
  have hnum : strOfNums [(c.toNat : Int)] = str [c] := nums_str (by simp)
  have hz3 : (str [c]).size = 1 := rfl
  have x1 := extract_size_le t 0 k
  have x2 := extract_size_le t k t.size
  have xz : (t.extract 0 k ++ str [c] ++ t.extract k t.size : ByteArray).size ≤ 1048576 := by
    rw [ByteArray.size_append, ByteArray.size_append, hz3]; omega
  have HT := hide ht
  clear ht tl hk hj h h0
  have HXZ := hide xz
  clear xz
  obtain ⟨r1, r2⟩ := hr
  go_enter Try.func8, Try.ntmps8
  go_wp2_with fail
  refine (encode64_any _ _ (by omega)).mono ?_
  rintro e w1 ⟨rfl, hb1⟩
  rw [← HT.out]
  go_wp2_with fail
  go_region_with (first
    | (go_at_call 21; refine (decode64_any _ _ HXZ.out).mono ?_; rintro e w2 ⟨rfl, hb2⟩; rw [HJ.out])
    | (go_at_call 16; refine (live1_any _).mono ?_; rintro e w3 ⟨rfl, hb3⟩))
  all_goals
    try go_wp2_with fail
    go_ret
    refine ⟨by rfl, ?_⟩
    have q1 := (hb1.alloc hb1.size (.cells #[.int .u8 c.toNat] 5)).drew
    have q2 := q1.trans (hb2.mono q1.size)
    exact q2.trans (hb3.mono q2.size)


set_option maxHeartbeats 2000000 in
theorem junk_real4 (s : ByteArray) (hs : s.size ≤ 2000) (z : Int) (c : UInt8) (w : World) (h0 : 0 ≤ z) (hz1 : z ≤ 9223372036854775807)
    (h : ¬ (c.toNat = 61 ∨ c.toNat = 43 ∨ c.toNat = 47 ∨ (48 ≤ c.toNat ∧ c.toNat ≤ 57) ∨ (97 ≤ c.toNat ∧ c.toNat ≤ 122) ∨ (65 ≤ c.toNat ∧ c.toNat ≤ 90))) (hr : 122 < c.toNat) :
    Calls Try.prog 8 #[.string s, .int .i64 z, .int .u8 c.toNat] w fun e w' => e = .returned (.bool true) ∧ Below w.heap.size w w' := by
  have hc := byte_lt c
  have hj := junk_facts c h
  have e1 : ((c.toNat : Int) == 61) = false := by rw [beq_eq_false_iff_ne]; omega
  have e2 : ((c.toNat : Int) == 43) = false := by rw [beq_eq_false_iff_ne]; omega
  have e3 : ((c.toNat : Int) == 47) = false := by rw [beq_eq_false_iff_ne]; omega
  obtain ⟨t, ht⟩ : ∃ t, t = str (encB s.data.toList) := ⟨_, rfl⟩
  have tz : t.size ≤ 20000 := by rw [ht, str_size, encB_len, toList_length]; omega
  have tl : t.data.toList = encB s.data.toList := by rw [ht, str_toList]
  obtain ⟨m, rfl⟩ := Int.eq_ofNat_of_zero_le h0
  obtain ⟨k, hk⟩ : ∃ k, k = m % (t.size + 1) := ⟨_, rfl⟩
  have hk1 : k ≤ t.size := by rw [hk]; have := Nat.mod_lt m (show 0 < t.size + 1 by omega); omega
  have hkm : (m : Int) % ((t.size : Int) + 1) = k := by rw [hk]; simp
  have hcv := conv1
  have hcd := conv1d
  have HJ : Hid (str (decB (t.extract 0 k ++ str [c] ++ t.extract k t.size : ByteArray).data.toList) = s) := by
    have e : (t.extract 0 k ++ str [c] ++ t.extract k t.size : ByteArray).data.toList = (encB s.data.toList).take k ++ [c] ++ (encB s.data.toList).drop k := by
      rw [ByteArray.data_append, Array.toList_append, ByteArray.data_append, Array.toList_append, extract_list, extract_end, tl, str_toList, List.drop_zero]
    rw [e, decB_junk _ _ _ hj.1 hj.2, str_of]
    exact hide rfl
  have hnum : strOfNums [(c.toNat : Int)] = str [c] := nums_str (by simp)
  have hz3 : (str [c]).size = 1 := rfl
  have x1 := extract_size_le t 0 k
  have x2 := extract_size_le t k t.size
  have xz : (t.extract 0 k ++ str [c] ++ t.extract k t.size : ByteArray).size ≤ 1048576 := by
    rw [ByteArray.size_append, ByteArray.size_append, hz3]; omega
  have HT := hide ht
  clear ht tl hk hj h h0
  have HXZ := hide xz
  clear xz
  go_enter Try.func8, Try.ntmps8
  go_wp2_with fail
  refine (encode64_any _ _ (by omega)).mono ?_
  rintro e w1 ⟨rfl, hb1⟩
  rw [← HT.out]
  go_wp2_with fail
  go_region_with (first
    | (go_at_call 21; refine (decode64_any _ _ HXZ.out).mono ?_; rintro e w2 ⟨rfl, hb2⟩; rw [HJ.out])
    | (go_at_call 16; refine (live1_any _).mono ?_; rintro e w3 ⟨rfl, hb3⟩))
  all_goals
    try go_wp2_with fail
    go_ret
    refine ⟨by rfl, ?_⟩
    have q1 := (hb1.alloc hb1.size (.cells #[.int .u8 c.toNat] 5)).drew
    have q2 := q1.trans (hb2.mono q1.size)
    exact q2.trans (hb3.mono q2.size)


end Go.Proofs.Ytdjolkkifcjpdaa
