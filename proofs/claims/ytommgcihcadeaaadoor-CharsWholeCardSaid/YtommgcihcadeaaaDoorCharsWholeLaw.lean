/- WALK of the law CharsWhole. No statement is proved here. -/
import Derived.Test.YtommgcihcadeaaaDoorCharsLaw0
import Derived.Test.YtommgcihcadeaaaDoorRefWhole
namespace Go.Proofs.YtommgcihcadeaaaDoor
open Go.RowKit
set_option linter.unusedVariables false
set_option linter.unusedSimpArgs false

set_option maxHeartbeats 1000000 in
theorem whole04_any (s : ByteArray) (w : World) (hs : s.size ≤ 1048576) :
    Calls Tryd.prog 18 #[.string s] w fun e w' => e = .returned (.bool (allWhole s.data.toList)) ∧ w = w' := by
  go_enter Tryd.func18, Tryd.ntmps18
  go_wp2_with fail
  go_loop [3] (fun i => ∃ k : Nat, k ≤ s.size ∧ i = .int .i64 k ∧ allWhole (s.data.toList.drop k) = allWhole s.data.toList) (fun i => s.size - (intOf i).toNat)
  case atStart => exact ⟨0, Nat.zero_le _, rfl, by rw [List.drop_zero]⟩
  case round =>
    obtain ⟨k, hk, rfl, hd⟩ := hrel
    by_cases hlt : k < s.size
    · have hne : s.data.toList.drop k ≠ [] := by rw [drop_cons s k hlt]; simp
      have hle := wholeN_le (s.data.toList.drop k)
      rw [List.length_drop, toList_length] at hle
      obtain ⟨n, hn⟩ : ∃ n, n = wholeN (s.data.toList.drop k) := ⟨_, rfl⟩
      rw [← hn] at hle
      obtain ⟨hl1, hl2⟩ := hle
      have HN := hide hn
      by_cases h0 : n = 0
      · have HF : Hid (allWhole s.data.toList = false) := hide (by rw [← hd]; exact allWhole_zero (by rw [← hn, h0]) hne)
        have t0 : ((n : Int) == 0) = true := by rw [h0]; rfl
        clear hn hd hne h0
        go_wp2_with fail
        refine (whole_any s k _ (by omega) hlt).mono ?_
        rintro e w1 ⟨rfl, rfl⟩
        rw [← HN.out]
        go_wp2_with fail
        go_ret
        exact ⟨ret_bool (by rw [HF.out]), rfl⟩
      · have hd2 : allWhole (s.data.toList.drop (k + n)) = allWhole s.data.toList := by
          rw [← hd, allWhole_pos (l := s.data.toList.drop k) (by rw [← hn]; exact h0), ← hn, List.drop_drop]
        have HD := hide hd2
        have t0 : ((n : Int) == 0) = false := by rw [beq_eq_false_iff_ne]; omega
        clear hn hd hd2 hne
        go_wp2_with fail
        refine (whole_any s k _ (by omega) hlt).mono ?_
        rintro e w1 ⟨rfl, rfl⟩
        rw [← HN.out]
        go_wp2_with fail
        go_round
        case rel => exact ⟨k + n, by omega, by go_num, HD.out⟩
        case measure => simp [intOf]; omega
    · have HF : Hid (allWhole s.data.toList = true) := hide (by rw [← hd, drop_nil s k (by omega)]; exact allWhole_nil)
      clear hd
      go_wp2_with fail
      go_ret
      exact ⟨ret_bool (by rw [HF.out]), rfl⟩

set_option maxHeartbeats 2000000 in
theorem law_CharsWhole (label : ByteArray) (hlabellabel : label.size ≤ maxLen) (s : ByteArray) (hss : s.size ≤ maxLen) (w : World) (hT : Tab w) :
    Calls Tryd.prog 5 #[.string label, .string s] w fun e w' => e = .returned (.bool true) ∧ Below w.heap.size w w' := by
  have H0 := hide hT.lt
  have HT := hide hT
  clear hT
  rcases Nat.lt_or_ge 5000 s.size with hqs | hs
  · have HDs : Hid (decide (s.size ≤ 5000) = false) := decide_eq_false (by omega)
    go_enter Tryd.func5, Tryd.ntmps5
    go_wp2_with fail
    refine (short4_any s _ hss).mono ?_
    rintro e w1 ⟨rfl, rfl⟩
    rw [HDs.out]
    go_wp2_with fail
    refine (live4_any _ (HT.out.below (Below.refl _ _) H0.out)).mono ?_
    rintro e w1 ⟨rfl, hb1⟩
    go_wp2_with fail
    go_ret
    exact ⟨rfl, hb1⟩
  have HDs : Hid (decide (s.size ≤ 5000) = true) := decide_eq_true hs
  rcases Nat.lt_or_ge 5000 label.size with hqlabel | hlabel
  · have HDlabel : Hid (decide (label.size ≤ 5000) = false) := decide_eq_false (by omega)
    go_enter Tryd.func5, Tryd.ntmps5
    go_wp2_with fail
    refine (short4_any s _ hss).mono ?_
    rintro e w1 ⟨rfl, rfl⟩
    rw [HDs.out]
    go_wp2_with fail
    refine (short4_any label _ hlabellabel).mono ?_
    rintro e w1 ⟨rfl, rfl⟩
    rw [HDlabel.out]
    go_wp2_with fail
    refine (live4_any _ (HT.out.below (Below.refl _ _) H0.out)).mono ?_
    rintro e w1 ⟨rfl, hb1⟩
    go_wp2_with fail
    go_ret
    exact ⟨rfl, hb1⟩
  have HDlabel : Hid (decide (label.size ≤ 5000) = true) := decide_eq_true hlabel
  have hD : decV (kindL label.data.toList) s.data.toList = .tuple #[.string (str (decodeL (kindL label.data.toList) s.data.toList)), .bool (decide (0 < kindL label.data.toList))] := rfl
  have z1 := decodeL_length (kindL label.data.toList) s.data.toList
  have z2 := validL_length s.data.toList
  rw [toList_length] at z1 z2
  obtain ⟨t, ht⟩ : ∃ t, t = str (decodeL (kindL label.data.toList) s.data.toList) := ⟨_, rfl⟩
  obtain ⟨v, hv⟩ : ∃ v, v = str (validL s.data.toList) := ⟨_, rfl⟩
  have zt : t.size ≤ 3 * s.size := by rw [ht, str_size]; exact z1
  have zv : v.size ≤ 3 * s.size := by rw [hv, str_size]; exact z2
  have WT : Hid (allWhole t.data.toList = true) := hide (by rw [ht, str_toList]; exact decodeL_whole _ _)
  have WV : Hid (allWhole v.data.toList = true) := hide (by rw [hv, str_toList]; exact allWhole_valid _)
  have VV : Hid (str (validL v.data.toList) = v) := hide (by rw [valid_whole _ WV.out, str_of])
  have hcase : allWhole s.data.toList = false ∨ (allWhole s.data.toList = true ∧ (v.toList == s.toList) = true) := by
    cases h : allWhole s.data.toList with
    | false => exact .inl rfl
    | true => exact .inr ⟨rfl, by rw [hv, valid_whole _ h, str_of]; simp⟩
  rw [← ht] at hD
  have HD := hide hD
  have HV := hide hv
  generalize decide (0 < kindL label.data.toList) = kb at HD
  clear hD ht hv z1 z2
  go_enter Tryd.func5, Tryd.ntmps5
  go_wp2_with fail
  refine (short4_any s _ hss).mono ?_
  rintro e w1 ⟨rfl, rfl⟩
  rw [HDs.out]
  go_wp2_with fail
  refine (short4_any label _ hlabellabel).mono ?_
  rintro e w1 ⟨rfl, rfl⟩
  rw [HDlabel.out]
  go_wp2_with fail
  refine (charsDecode_any label s _ (by omega) (by omega) HT.out).mono ?_
  rintro e w1 ⟨rfl, hb1⟩
  rw [HD.out]
  go_wp2_with fail
  refine (valid_any s _ (by omega)).mono ?_
  rintro e w2 ⟨rfl, hb2⟩
  rw [← HV.out]
  have k2 := hb1.trans (hb2.mono hb1.size)
  go_wp2_with fail
  refine (whole04_any t _ (by omega)).mono ?_
  rintro e w3 ⟨rfl, rfl⟩
  rw [WT.out]
  go_wp2_with fail
  refine (whole04_any v _ (by omega)).mono ?_
  rintro e w3 ⟨rfl, rfl⟩
  rw [WV.out]
  go_wp2_with fail
  refine (valid_any v _ (by omega)).mono ?_
  rintro e w3 ⟨rfl, hb3⟩
  rw [VV.out]
  have k3 := k2.trans (hb3.mono k2.size)
  go_wp2_with fail
  refine (whole04_any s _ (by omega)).mono ?_
  rintro e w4 ⟨rfl, rfl⟩
  rcases hcase with hw | ⟨hw, hq⟩
  all_goals
    rw [hw]
    clear hw
    go_wp2_with fail
    refine (live4_any _ (HT.out.below k3 H0.out)).mono ?_
    rintro e wl ⟨rfl, hbl⟩
    go_wp2_with fail
    go_ret
    exact ⟨rfl, k3.trans (hbl.mono k3.size)⟩
end Go.Proofs.YtommgcihcadeaaaDoor
