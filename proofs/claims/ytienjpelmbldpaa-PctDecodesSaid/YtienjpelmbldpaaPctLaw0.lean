/- WALKS of muslinlaw03's live and short. No statement is proved here. -/
import Derived.Test.YtienjpelmbldpaaPct
namespace Go.Proofs.Ytienjpelmbldpaa
open Go.RowKit
set_option linter.unusedVariables false
set_option linter.unusedSimpArgs false

theorem live3a : extV (pExt [85, 84, 70, 45, 56, 39, 101, 110, 39, 97, 37, 50, 48, 98, 39, 99]) = .tuple #[.string ⟨#[117, 116, 102, 45, 56]⟩, .string ⟨#[97, 32, 98, 39, 99]⟩, .bool true] := by
  have : pExt [85, 84, 70, 45, 56, 39, 101, 110, 39, 97, 37, 50, 48, 98, 39, 99] = some ([117, 116, 102, 45, 56], [97, 32, 98, 39, 99]) := by decide +kernel
  rw [this]; rfl
theorem live3b : extV (pExt [97, 39, 98]) = .tuple #[.string ⟨#[]⟩, .string ⟨#[]⟩, .bool false] := by
  have : pExt [97, 39, 98] = none := by decide +kernel
  rw [this]; rfl
theorem live3c : penc [97, 32, 98] = [97, 37, 50, 48, 98] := by decide +kernel
theorem live3d : pdec [37, 52, 97, 37, 122, 122, 37] = [74, 37, 122, 122, 37] := by decide +kernel

set_option maxHeartbeats 1000000 in
theorem live3_any (w : World) : Calls Try.prog 9 #[] w fun e w' => e = .returned (.bool true) ∧ Below w.heap.size w w' := by
  have H1 : Hid (extV (pExt (⟨#[85, 84, 70, 45, 56, 39, 101, 110, 39, 97, 37, 50, 48, 98, 39, 99]⟩ : ByteArray).data.toList) = _) := hide live3a
  have H2 : Hid (extV (pExt (⟨#[97, 39, 98]⟩ : ByteArray).data.toList) = _) := hide live3b
  have H3 : Hid (str (penc (⟨#[97, 32, 98]⟩ : ByteArray).data.toList) = ⟨#[97, 37, 50, 48, 98]⟩) := hide (congrArg str live3c)
  have H4 : Hid (str (pdec (⟨#[37, 52, 97, 37, 122, 122, 37]⟩ : ByteArray).data.toList) = ⟨#[74, 37, 122, 122, 37]⟩) := hide (congrArg str live3d)
  go_enter Try.func9, Try.ntmps9
  go_wp2_with fail
  refine (extended_any _ _ (by decide)).mono ?_
  rintro e w1 ⟨rfl, hb1⟩
  rw [H1.out]
  go_wp2_with fail
  refine (extended_any _ _ (by decide)).mono ?_
  rintro e w2 ⟨rfl, hb2⟩
  rw [H2.out]
  go_wp2_with fail
  refine (encode_any _ _ (by decide)).mono ?_
  rintro e w3 ⟨rfl, hb3⟩
  rw [H3.out]
  go_wp2_with fail
  refine (decode_any _ _ (by decide)).mono ?_
  rintro e w4 ⟨rfl, hb4⟩
  rw [H4.out]
  go_wp2_with fail
  go_ret
  have k2 := hb1.trans (hb2.mono hb1.size)
  have k3 := k2.trans (hb3.mono k2.size)
  exact ⟨rfl, k3.trans (hb4.mono k3.size)⟩

theorem short3_any (s : ByteArray) (w : World) (hs : s.size ≤ maxLen) : Calls Try.prog 8 #[.string s] w fun e w' => e = .returned (.bool (decide (s.size ≤ 5000))) ∧ w = w' := by
  unfold maxLen at hs
  by_cases h : s.size ≤ 5000
  · have e : decide (s.size ≤ 5000) = true := decide_eq_true h
    rw [e]
    clear e
    go_enter Try.func8, Try.ntmps8
    go_wp2
    go_ret
    exact ⟨ret_bool (decide_eq_true (by omega)), rfl⟩
  · have e : decide (s.size ≤ 5000) = false := decide_eq_false h
    rw [e]
    clear e
    go_enter Try.func8, Try.ntmps8
    go_wp2
    go_ret
    exact ⟨ret_bool (decide_eq_false (by omega)), rfl⟩
end Go.Proofs.Ytienjpelmbldpaa
