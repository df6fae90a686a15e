/- WALKS of qp.equals, qp.written, qp.guardBlank. No statement is proved here. -/
import Derived.Test.YtlllboleinnfiaaQpWalk
namespace Go.Proofs.Ytlllboleinnfiaa
open Go.RowKit
set_option linter.unusedVariables false
set_option linter.unusedSimpArgs false
/-- what 'equals' answers -/
def eqV (r : List UInt8) : Value := .tuple #[.string (str (eqF r).1), .int .i64 (eqF r).2]

theorem white_suf (s : ByteArray) (k : Nat) (w : World) (hs : s.size ≤ maxLen) (hk : k ≤ s.size) :
    Calls Try.prog 16 #[.string (s.extract k s.size)] w fun e w' => e = .returned (.int .i64 (whiteN (s.data.toList.drop k))) ∧ w = w' := by
  have := white_any (s.extract k s.size) w (by rw [ByteArray.size_extract]; omega)
  rw [extract_end] at this
  exact this
theorem lineEnd_suf (s : ByteArray) (k : Nat) (w : World) (hs : s.size ≤ maxLen) (hk : k ≤ s.size) :
    Calls Try.prog 17 #[.string (s.extract k s.size)] w fun e w' => e = .returned (.int .i64 (eolN (s.data.toList.drop k))) ∧ w = w' := by
  have := lineEnd_any (s.extract k s.size) w (by rw [ByteArray.size_extract]; omega)
  rw [extract_end] at this
  exact this

theorem fromHex_suf (s : ByteArray) (k : Nat) (w : World) (hs : s.size ≤ maxLen) (hk : k ≤ s.size) :
    Calls Try.prog 24 #[.string (s.extract k s.size)] w fun e w' => e = .returned (fromHexV (s.data.toList.drop k)) ∧ Below w.heap.size w w' := by
  have := fromHex_any (s.extract k s.size) w (by rw [ByteArray.size_extract]; omega)
  rw [extract_end] at this
  exact this

set_option maxHeartbeats 1000000 in
theorem equals_any (s : ByteArray) (w : World) (hs : s.size ≤ maxLen) (h1 : 0 < s.size) :
    Calls Try.prog 15 #[.string s] w fun e w' => e = .returned (eqV (s.data.toList.drop 1)) ∧ Below w.heap.size w w' := by
  have hs' := hs
  unfold maxLen at hs
  cases hx : hex2 (s.data.toList.drop 1) with
  | some b =>
    have HV : Hid (fromHexV (s.data.toList.drop 1) = .tuple #[.int .u8 b.toNat, .bool true]) := hide (by unfold fromHexV; rw [hx]; rfl)
    have HE : Hid (eqV (s.data.toList.drop 1) = .tuple #[.string (str [b]), .int .i64 3]) := hide (by unfold eqV eqF; rw [hx]; rfl)
    have hcv := conv1
    clear hx
    go_enter Try.func15, Try.ntmps15
    go_wp2_with fail
    refine (fromHex_suf s 1 _ hs' (by omega)).mono ?_
    rintro e w1 ⟨rfl, hb1⟩
    rw [HV.out]
    go_wp2_with fail
    go_ret2
    refine ⟨?_, hb1.alloc hb1.size _⟩
    rw [nums_str (l := [b]) (by simp), HE.out]; rfl
  | none =>
    have HV : Hid (fromHexV (s.data.toList.drop 1) = .tuple #[.int .u8 0, .bool false]) := hide (by unfold fromHexV; rw [hx]; rfl)
    have hw1 := whiteN_le (s.data.toList.drop 1)
    have he1 := eolN_le ((s.data.toList.drop 1).drop (whiteN (s.data.toList.drop 1)))
    rw [List.length_drop, toList_length] at hw1
    rw [List.length_drop, List.length_drop, toList_length] at he1
    have hF : eqV (s.data.toList.drop 1) = if 0 < eolN ((s.data.toList.drop 1).drop (whiteN (s.data.toList.drop 1))) then
        .tuple #[.string (str []), .int .i64 ((1 + whiteN (s.data.toList.drop 1) + eolN ((s.data.toList.drop 1).drop (whiteN (s.data.toList.drop 1))) : Nat))] else .tuple #[.string (str [61]), .int .i64 1] := by
      unfold eqV eqF
      rw [hx]
      simp only
      split <;> rfl
    obtain ⟨n, hN⟩ : ∃ n, n = whiteN (s.data.toList.drop 1) := ⟨_, rfl⟩
    rw [← hN] at hw1 he1 hF
    obtain ⟨m, hM⟩ : ∃ m, m = eolN ((s.data.toList.drop 1).drop n) := ⟨_, rfl⟩
    rw [← hM] at he1 hF
    rw [hF]
    have HN := hide hN
    have HM : Hid (m = eolN (s.data.toList.drop (n + 1))) := by rw [hM, List.drop_drop, Nat.add_comm 1 n]; exact hide rfl
    have hm : n + m + 1 ≤ s.size := by omega
    clear hN hM hF hx he1
    by_cases hm0 : 0 < m
    all_goals
      first | rw [if_pos hm0] | rw [if_neg hm0]
      go_enter Try.func15, Try.ntmps15
      go_wp2_with fail
      refine (fromHex_suf s 1 _ hs' (by omega)).mono ?_
      rintro e w1 ⟨rfl, hbw⟩
      rw [HV.out]
      go_wp2_with fail
      refine (white_suf s 1 _ hs' (by omega)).mono ?_
      rintro e w2 ⟨rfl, rfl⟩
      rw [← HN.out]
      go_wp2_with fail
      rw [show 1 + n = n + 1 from by omega]
      refine (lineEnd_suf s (n + 1) _ hs' (by omega)).mono ?_
      rintro e w3 ⟨rfl, rfl⟩
      rw [← HM.out]
      go_wp2_with fail
      go_ret2
      refine ⟨?_, hbw⟩
    all_goals first | rfl | (show Ending.returned (.tuple #[.string (str []), _]) = _; congr 4; omega)
end Go.Proofs.Ytlllboleinnfiaa
