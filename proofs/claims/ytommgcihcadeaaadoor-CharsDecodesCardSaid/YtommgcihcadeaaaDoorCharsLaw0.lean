/- WALKS of muslinlaw04's live and short. No statement is proved here. -/
import Derived.Test.YtommgcihcadeaaaDoorCharsD
namespace Go.Proofs.YtommgcihcadeaaaDoor
open Go.RowKit
set_option linter.unusedVariables false
set_option linter.unusedSimpArgs false

theorem live4a : kindL [32, 76, 97, 116, 105, 110, 49, 10] = 2 := by decide +kernel
theorem live4b : kindL [120] = 0 := by decide +kernel
theorem live4c : kindL [97, 115, 99, 105, 105] = 2 := by decide +kernel
theorem live4d : kindL [117, 116, 102, 45, 49, 54, 98, 101] = 4 := by decide +kernel
theorem live4e : decodeL 2 [233, 128] = [195, 169, 226, 130, 172] := by decide +kernel
theorem live4f : decodeL 4 [216, 61, 222, 0, 120] = [240, 159, 152, 128, 239, 191, 189] := by decide +kernel
theorem live4g : validL [97, 233, 233, 98] = [97, 239, 191, 189, 239, 191, 189, 98] := by decide +kernel

set_option maxHeartbeats 2000000 in
theorem live4_any (w : World) (hT : Tab w) : Calls Tryd.prog 11 #[] w fun e w' => e = .returned (.bool true) ∧ Below w.heap.size w w' := by
  have H0 := hide hT.lt
  have HT := hide hT
  clear hT
  have H1 : Hid (knownV (kindL (⟨#[32, 76, 97, 116, 105, 110, 49, 10]⟩ : ByteArray).data.toList) = .tuple #[.string ⟨#[119, 105, 110, 100, 111, 119, 115, 45, 49, 50, 53, 50]⟩, .bool true]) := hide (by rw [show kindL _ = 2 from live4a]; rfl)
  have H2 : Hid (knownV (kindL (⟨#[120]⟩ : ByteArray).data.toList) = .tuple #[.string ⟨#[]⟩, .bool false]) := hide (by rw [show kindL _ = 0 from live4b]; rfl)
  have H3 : Hid (decV (kindL (⟨#[97, 115, 99, 105, 105]⟩ : ByteArray).data.toList) (⟨#[233, 128]⟩ : ByteArray).data.toList = .tuple #[.string ⟨#[195, 169, 226, 130, 172]⟩, .bool true]) := hide (by
    rw [show kindL _ = 2 from live4c]; unfold decV; rw [show decodeL 2 _ = _ from live4e]; rfl)
  have H4 : Hid (decV (kindL (⟨#[117, 116, 102, 45, 49, 54, 98, 101]⟩ : ByteArray).data.toList) (⟨#[216, 61, 222, 0, 120]⟩ : ByteArray).data.toList = .tuple #[.string ⟨#[240, 159, 152, 128, 239, 191, 189]⟩, .bool true]) := hide (by
    rw [show kindL _ = 4 from live4d]; unfold decV; rw [show decodeL 4 _ = _ from live4f]; rfl)
  have H5 : Hid (str (validL (⟨#[97, 233, 233, 98]⟩ : ByteArray).data.toList) = ⟨#[97, 239, 191, 189, 239, 191, 189, 98]⟩) := hide (congrArg str live4g)
  go_enter Tryd.func11, Tryd.ntmps11
  go_wp2_with fail
  refine (known_any _ _ (by decide)).mono ?_
  rintro e w1 ⟨rfl, hb1⟩
  rw [H1.out]
  go_wp2_with fail
  refine (known_any _ _ (by decide)).mono ?_
  rintro e w2 ⟨rfl, hb2⟩
  rw [H2.out]
  have k2 := hb1.trans (hb2.mono hb1.size)
  go_wp2_with fail
  refine (charsDecode_any _ _ _ (by decide) (by decide) (HT.out.below k2 H0.out)).mono ?_
  rintro e w3 ⟨rfl, hb3⟩
  rw [H3.out]
  have k3 := k2.trans (hb3.mono k2.size)
  go_wp2_with fail
  refine (charsDecode_any _ _ _ (by decide) (by decide) (HT.out.below k3 H0.out)).mono ?_
  rintro e w4 ⟨rfl, hb4⟩
  rw [H4.out]
  have k4 := k3.trans (hb4.mono k3.size)
  go_wp2_with fail
  refine (valid_any _ _ (by decide)).mono ?_
  rintro e w5 ⟨rfl, hb5⟩
  rw [H5.out]
  go_wp2_with fail
  go_ret
  exact ⟨rfl, k4.trans (hb5.mono k4.size)⟩

theorem short4_any (s : ByteArray) (w : World) (hs : s.size ≤ maxLen) : Calls Tryd.prog 10 #[.string s] w fun e w' => e = .returned (.bool (decide (s.size ≤ 5000))) ∧ w = w' := by
  unfold maxLen at hs
  by_cases h : s.size ≤ 5000
  · have e : decide (s.size ≤ 5000) = true := decide_eq_true h
    rw [e]
    clear e
    go_enter Tryd.func10, Tryd.ntmps10
    go_wp2
    go_ret
    exact ⟨ret_bool (decide_eq_true (by omega)), rfl⟩
  · have e : decide (s.size ≤ 5000) = false := decide_eq_false h
    rw [e]
    clear e
    go_enter Tryd.func10, Tryd.ntmps10
    go_wp2
    go_ret
    exact ⟨ret_bool (decide_eq_false (by omega)), rfl⟩
end Go.Proofs.YtommgcihcadeaaaDoor
