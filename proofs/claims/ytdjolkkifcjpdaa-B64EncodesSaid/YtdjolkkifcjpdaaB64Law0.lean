/- WALKS of muslinlaw01's live and short. No statement is proved here. -/
import Derived.Test.YtdjolkkifcjpdaaB64Wrap
import Derived.Test.YtdjolkkifcjpdaaB64Dec
namespace Go.Proofs.Ytdjolkkifcjpdaa
open Go.RowKit
set_option linter.unusedVariables false
set_option linter.unusedSimpArgs false

theorem live64a : encB [72, 105] = [83, 71, 107, 61] := by decide +kernel
theorem live64b : encB [72] = [83, 65, 61, 61] := by decide +kernel
theorem live64c : decB [83, 45, 71, 32, 107, 61, 120, 120] = [72, 105] := by decide +kernel
theorem live64d : wrapL 4 (encB [72, 101, 108, 108, 111, 33]) = [83, 71, 86, 115, 13, 10, 98, 71, 56, 104] := by decide +kernel

set_option maxHeartbeats 1000000 in
theorem live1_any (w : World) : Calls Try.prog 16 #[] w fun e w' => e = .returned (.bool true) ∧ Below w.heap.size w w' := by
  have h1 : str (encB (⟨#[72, 105]⟩ : ByteArray).data.toList) = ⟨#[83, 71, 107, 61]⟩ := congrArg str live64a
  have h2 : str (encB (⟨#[72]⟩ : ByteArray).data.toList) = ⟨#[83, 65, 61, 61]⟩ := congrArg str live64b
  have h3 : str (decB (⟨#[83, 45, 71, 32, 107, 61, 120, 120]⟩ : ByteArray).data.toList) = ⟨#[72, 105]⟩ := congrArg str live64c
  have h4 : str (wrapL 4 (encB (⟨#[72, 101, 108, 108, 111, 33]⟩ : ByteArray).data.toList)) = ⟨#[83, 71, 86, 115, 13, 10, 98, 71, 56, 104]⟩ := congrArg str live64d
  have H1 := hide h1
  have H2 := hide h2
  have H3 := hide h3
  have H4 := hide h4
  clear h1 h2 h3 h4
  go_enter Try.func16, Try.ntmps16
  go_wp2_with fail
  refine (encode64_any _ _ (by decide)).mono ?_
  rintro e w1 ⟨rfl, hb1⟩
  rw [H1.out]
  go_wp2_with fail
  refine (encode64_any _ _ (by decide)).mono ?_
  rintro e w2 ⟨rfl, hb2⟩
  rw [H2.out]
  go_wp2_with fail
  refine (decode64_any _ _ (by decide)).mono ?_
  rintro e w3 ⟨rfl, hb3⟩
  rw [H3.out]
  go_wp2_with fail
  refine (wrap_any _ 4 4 _ (by decide) (by decide) (by decide)).mono ?_
  rintro e w4 ⟨rfl, hb4⟩
  rw [H4.out]
  go_wp2_with fail
  go_ret
  have k2 := hb1.trans (hb2.mono hb1.size)
  have k3 := k2.trans (hb3.mono k2.size)
  exact ⟨rfl, k3.trans (hb4.mono k3.size)⟩

theorem short1_any (s : ByteArray) (w : World) (hs : s.size ≤ maxLen) : Calls Try.prog 15 #[.string s] w fun e w' => e = .returned (.bool (decide (s.size ≤ 5000))) ∧ w = w' := by
  unfold maxLen at hs
  by_cases h : s.size ≤ 5000
  · have e : decide (s.size ≤ 5000) = true := decide_eq_true h
    rw [e]
    clear e
    go_enter Try.func15, Try.ntmps15
    go_wp2
    go_ret
    exact ⟨ret_bool (decide_eq_true (by omega)), rfl⟩
  · have e : decide (s.size ≤ 5000) = false := decide_eq_false h
    rw [e]
    clear e
    go_enter Try.func15, Try.ntmps15
    go_wp2
    go_ret
    exact ⟨ret_bool (decide_eq_false (by omega)), rfl⟩
end Go.Proofs.Ytdjolkkifcjpdaa
