/- WALKS of qp.equals, qp.written, qp.guardBlank. No statement is proved here. -/
import Derived.Test.YtdjolkkifcjpdaaQpWalk
namespace Go.Proofs.Ytdjolkkifcjpdaa
open Go.RowKit
set_option linter.unusedVariables false
set_option linter.unusedSimpArgs false
/-- what 'equals' answers -/
def eqV (r : List UInt8) : Value := .tuple #[.string (str (eqF r).1), .int .i64 (eqF r).2]

theorem white_suf (s : ByteArray) (k : Nat) (w : World) (hs : s.size ≤ maxLen) (hk : k ≤ s.size) :
    Calls Try.prog 39 #[.string (s.extract k s.size)] w fun e w' => e = .returned (.int .i64 (whiteN (s.data.toList.drop k))) ∧ w = w' := by
  have := white_any (s.extract k s.size) w (by rw [ByteArray.size_extract]; omega)
  rw [extract_end] at this
  exact this
theorem lineEnd_suf (s : ByteArray) (k : Nat) (w : World) (hs : s.size ≤ maxLen) (hk : k ≤ s.size) :
    Calls Try.prog 40 #[.string (s.extract k s.size)] w fun e w' => e = .returned (.int .i64 (eolN (s.data.toList.drop k))) ∧ w = w' := by
  have := lineEnd_any (s.extract k s.size) w (by rw [ByteArray.size_extract]; omega)
  rw [extract_end] at this
  exact this

theorem or_nibbles (h l : Nat) (hh : h < 16) (hl : l < 16) : bits .or .u8 ((h : Int) * 16) (l : Int) = ((16 * h + l : Nat) : Int) := by
  have : ∀ h, h < 16 → ∀ l, l < 16 → bits .or .u8 (((h : Nat) : Int) * 16) ((l : Nat) : Int) = ((16 * h + l : Nat) : Int) := by decide +kernel
  exact this h hh l hl

set_option maxHeartbeats 1000000 in
theorem equals_hex (s : ByteArray) (w : World) (hs : s.size ≤ maxLen) (h2 : 2 < s.size) (ha : hexN s[1] < 16) (hb : hexN s[2] < 16) :
    Calls Try.prog 38 #[.string s] w fun e w' => e = .returned (.tuple #[.string (str [UInt8.ofNat (16 * hexN s[1] + hexN s[2])]), .int .i64 3]) ∧ Below w.heap.size w w' := by
  unfold maxLen at hs
  have d1 : digV (hexN s[1]) = .tuple #[.int .u8 (hexN s[1] : Nat), .bool true] := by simp [digV, ha]
  have d2 : digV (hexN s[2]) = .tuple #[.int .u8 (hexN s[2] : Nat), .bool true] := by simp [digV, hb]
  have D1 := hide d1
  have D2 := hide d2
  have HO := hide (or_nibbles _ _ ha hb)
  have hcv := conv1
  clear d1 d2
  go_enter Try.func38, Try.ntmps38
  go_wp2_with fail
  refine (digit_any _ _).mono ?_
  rintro e w1 ⟨rfl, hb1⟩
  rw [D1.out]
  go_wp2_with fail
  refine (digit_any _ _).mono ?_
  rintro e w2 ⟨rfl, hb2⟩
  rw [D2.out]
  go_wp2_with fail
  go_ret2
  rw [HO.out]
  refine ⟨?_, (hb1.trans (hb2.mono hb1.size)).alloc (Nat.le_trans hb1.size hb2.size) _⟩
  rw [nums_str (l := [UInt8.ofNat (16 * hexN s[1] + hexN s[2])])]
  simp
  rfl

theorem hexV (n : Nat) : (n < 16 ∧ digV n = .tuple #[.int .u8 n, .bool true]) ∨ ¬ n < 16 ∧ digV n = .tuple #[.int .u8 0, .bool false] := by
  by_cases h : n < 16
  · exact .inl ⟨h, by simp [digV, h]⟩
  · exact .inr ⟨h, by simp [digV, h]⟩

set_option maxHeartbeats 1000000 in
theorem equals_no (s : ByteArray) (w : World) (hs : s.size ≤ maxLen) (h1 : 0 < s.size) (hn : hex2 (s.data.toList.drop 1) = none) :
    Calls Try.prog 38 #[.string s] w fun e w' => e = .returned (eqV (s.data.toList.drop 1)) ∧ Below w.heap.size w w' := by
  have hs' := hs
  unfold maxLen at hs
  have hw1 := whiteN_le (s.data.toList.drop 1)
  have he1 := eolN_le ((s.data.toList.drop 1).drop (whiteN (s.data.toList.drop 1)))
  rw [List.length_drop, toList_length] at hw1
  rw [List.length_drop, List.length_drop, toList_length] at he1
  have hF : eqV (s.data.toList.drop 1) = if 0 < eolN ((s.data.toList.drop 1).drop (whiteN (s.data.toList.drop 1))) then
      .tuple #[.string (str []), .int .i64 ((1 + whiteN (s.data.toList.drop 1) + eolN ((s.data.toList.drop 1).drop (whiteN (s.data.toList.drop 1))) : Nat))] else .tuple #[.string (str [61]), .int .i64 1] := by
    unfold eqV eqF
    rw [hn]
    simp only
    split <;> rfl
  obtain ⟨n, hN⟩ : ∃ n, n = whiteN (s.data.toList.drop 1) := ⟨_, rfl⟩
  rw [← hN] at hw1 he1 hF
  obtain ⟨m, hM⟩ : ∃ m, m = eolN ((s.data.toList.drop 1).drop n) := ⟨_, rfl⟩
  rw [← hM] at he1 hF
  rw [hF]
  have HN := hide hN
  have HM : Hid (m = eolN (s.data.toList.drop (n + 1))) := by rw [hM, List.drop_drop, Nat.add_comm 1 n]; exact hide rfl
  have hcase : ¬ 2 < s.size ∨ ∃ h2 : 2 < s.size, ¬ hexN s[1] < 16 ∨ hexN s[1] < 16 ∧ ¬ hexN s[2] < 16 := by
    by_cases h2 : 2 < s.size
    · refine .inr ⟨h2, ?_⟩
      rw [drop_cons s 1 (by omega), drop_cons s 2 h2] at hn
      simp only [hex2] at hn
      by_cases ha : hexN s[1] < 16
      · by_cases hb : hexN s[2] < 16
        · rw [if_pos ⟨ha, hb⟩] at hn; cases hn
        · exact .inr ⟨ha, hb⟩
      · exact .inl ha
    · exact .inl h2
  have hm : n + m + 1 ≤ s.size := by omega
  clear hN hM hF hn he1
  by_cases hm0 : 0 < m
  all_goals
    first | rw [if_pos hm0] | rw [if_neg hm0]
    rcases hcase with h2 | ⟨h2, ha | ⟨ha, hb⟩⟩
  all_goals go_enter Try.func38, Try.ntmps38
  all_goals
    go_wp2_with fail
    first
    | (refine (white_suf s 1 _ hs' (by omega)).mono ?_
       rintro e w2 ⟨rfl, rfl⟩
       have hbw : Below w.heap.size w w := Below.refl _ _)
    | (refine (digit_any _ _).mono ?_
       rintro e w1 ⟨rfl, hb1⟩
       rcases hexV (hexN s[1]) with ⟨k1, k2⟩ | ⟨k1, k2⟩
       all_goals first | (exfalso; omega) | skip
       all_goals
         rw [k2]
         clear k1 k2
         go_wp2_with fail
         refine (digit_any _ _).mono ?_
         rintro e w2 ⟨rfl, hb2⟩
         have hbw : Below w.heap.size w w2 := hb1.trans (hb2.mono hb1.size)
         rcases hexV (hexN s[2]) with ⟨k1, k2⟩ | ⟨k1, k2⟩
         all_goals first | (exfalso; omega) | skip
         all_goals
           rw [k2]
           clear k1 k2
           go_wp2_with fail
           refine (white_suf s 1 _ hs' (by omega)).mono ?_
           rintro e w2 ⟨rfl, rfl⟩)
  all_goals
    rw [← HN.out]
    go_wp2_with fail
  all_goals
    rw [show 1 + n = n + 1 from by omega]
    refine (lineEnd_suf s (n + 1) _ hs' (by omega)).mono ?_
    rintro e w3 ⟨rfl, rfl⟩
    rw [← HM.out]
    go_wp2_with fail
    go_ret2
    refine ⟨?_, hbw⟩
  all_goals first | rfl | (show Ending.returned (.tuple #[.string (str []), _]) = _; congr 4; omega)
end Go.Proofs.Ytdjolkkifcjpdaa
