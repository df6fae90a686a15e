/- WALKS of muslinlaw16's live and short. No statement is proved here. Own work of the verifier. -/
import Derived.Test.YtlhjdjjbmljilaaDoorLinkK
namespace Go.Proofs.YtlhjdjjbmljilaaDoor
open Go.RowKit
set_option linter.unusedVariables false
set_option linter.unusedSimpArgs false
set_option maxRecDepth 100000
theorem live16a : schV (lkClean [32, 72, 84, 84, 80, 9, 115, 58, 47, 47, 120, 0]) = .tuple #[.string ⟨#[104, 116, 116, 112, 115]⟩, .bool true] := by
  have h : schL (lkClean [32, 72, 84, 84, 80, 9, 115, 58, 47, 47, 120, 0]) = some ([104, 116, 116, 112, 115], [47, 47, 120]) := by decide +kernel
  unfold schV; rw [h]; rfl
theorem live16b : schV (lkClean [49, 97, 58, 98]) = .tuple #[.string ⟨#[]⟩, .bool false] := by
  have h : schL (lkClean [49, 97, 58, 98]) = none := by decide +kernel
  unfold schV; rw [h]
theorem live16c : lkClean [1, 32, 97, 10, 32, 98, 13, 32] = [97, 32, 98] := by decide +kernel
theorem live16d : lkKind (lkClean [106, 97, 118, 97, 10, 115, 99, 114, 105, 112, 116, 58, 120]) = 5 := by decide +kernel
theorem live16e : lkKind (lkClean [97, 47, 98, 58, 99]) = 0 := by decide +kernel
theorem live16f : lkKind (lkClean [104, 116, 116, 112, 58, 47, 47, 120]) = 1 := by decide +kernel
theorem live16g : lkKind (lkClean [104, 116, 116, 112, 115, 58, 47, 47, 47]) = 5 := by decide +kernel
theorem live16h : lkKind (lkClean [67, 73, 68, 58, 120]) = 4 := by decide +kernel
set_option maxHeartbeats 2000000 in
theorem live16_any (w : World) (hE : EnvU w) : Calls Tryd.prog 14 #[] w fun e w' => e = .returned (.bool true) ∧ Below w.heap.size w w' := by
  have H1 : Hid (schV (lkClean (⟨#[32, 72, 84, 84, 80, 9, 115, 58, 47, 47, 120, 0]⟩ : ByteArray).data.toList) = _) := hide live16a
  have H2 : Hid (schV (lkClean (⟨#[49, 97, 58, 98]⟩ : ByteArray).data.toList) = _) := hide live16b
  have H3 : Hid (str (lkClean (⟨#[1, 32, 97, 10, 32, 98, 13, 32]⟩ : ByteArray).data.toList) = ⟨#[97, 32, 98]⟩) := hide (congrArg str live16c)
  have H4 : Hid (((lkKind (lkClean (⟨#[106, 97, 118, 97, 10, 115, 99, 114, 105, 112, 116, 58, 120]⟩ : ByteArray).data.toList) : Nat) : Int) = 5) := hide (congrArg Int.ofNat live16d)
  have H5 : Hid (((lkKind (lkClean (⟨#[97, 47, 98, 58, 99]⟩ : ByteArray).data.toList) : Nat) : Int) = 0) := hide (congrArg Int.ofNat live16e)
  have H6 : Hid (((lkKind (lkClean (⟨#[104, 116, 116, 112, 58, 47, 47, 120]⟩ : ByteArray).data.toList) : Nat) : Int) = 1) := hide (congrArg Int.ofNat live16f)
  have H7 : Hid (((lkKind (lkClean (⟨#[104, 116, 116, 112, 115, 58, 47, 47, 47]⟩ : ByteArray).data.toList) : Nat) : Int) = 5) := hide (congrArg Int.ofNat live16g)
  have H8 : Hid (((lkKind (lkClean (⟨#[67, 73, 68, 58, 120]⟩ : ByteArray).data.toList) : Nat) : Int) = 4) := hide (congrArg Int.ofNat live16h)
  have HE := hide hE
  have HB : Hid (Below w.heap.size w w) := hide (Below.refl _ _)
  clear hE
  go_enter Tryd.func14, Tryd.ntmps14
  go_wp2_with fail
  refine (linkScheme_any _ _ (by decide) HE.out).mono ?_
  rintro e w1 ⟨rfl, hb1⟩
  have HE1 := hide (HE.out.kept hb1)
  have HB1 := hide hb1
  clear hb1
  rw [H1.out]
  go_wp2_with fail
  refine (linkScheme_any _ _ (by decide) HE1.out).mono ?_
  rintro e w2 ⟨rfl, hb2⟩
  have HE2 := hide (HE1.out.kept hb2)
  have HB2 := hide (HB1.out.trans (hb2.mono HB1.out.size))
  clear hb2
  rw [H2.out]
  go_wp2_with fail
  refine (linkClean_any _ _ (by decide) HE2.out).mono ?_
  rintro e w3 ⟨rfl, hb3⟩
  have HE3 := hide (HE2.out.kept hb3)
  have HB3 := hide (HB2.out.trans (hb3.mono HB2.out.size))
  clear hb3
  rw [H3.out]
  go_wp2_with fail
  refine (linkKind_any _ _ (by decide) HE3.out).mono ?_
  rintro e w4 ⟨rfl, hb4⟩
  have HE4 := hide (HE3.out.kept hb4)
  have HB4 := hide (HB3.out.trans (hb4.mono HB3.out.size))
  clear hb4
  rw [H4.out]
  go_wp2_with fail
  refine (linkKind_any _ _ (by decide) HE4.out).mono ?_
  rintro e w5 ⟨rfl, hb5⟩
  have HE5 := hide (HE4.out.kept hb5)
  have HB5 := hide (HB4.out.trans (hb5.mono HB4.out.size))
  clear hb5
  rw [H5.out]
  go_wp2_with fail
  refine (linkKind_any _ _ (by decide) HE5.out).mono ?_
  rintro e w6 ⟨rfl, hb6⟩
  have HE6 := hide (HE5.out.kept hb6)
  have HB6 := hide (HB5.out.trans (hb6.mono HB5.out.size))
  clear hb6
  rw [H6.out]
  go_wp2_with fail
  refine (linkKind_any _ _ (by decide) HE6.out).mono ?_
  rintro e w7 ⟨rfl, hb7⟩
  have HE7 := hide (HE6.out.kept hb7)
  have HB7 := hide (HB6.out.trans (hb7.mono HB6.out.size))
  clear hb7
  rw [H7.out]
  go_wp2_with fail
  refine (linkKind_any _ _ (by decide) HE7.out).mono ?_
  rintro e w8 ⟨rfl, hb8⟩
  have HB8 := hide (HB7.out.trans (hb8.mono HB7.out.size))
  clear hb8
  rw [H8.out]
  go_wp2_with fail
  go_ret
  exact ⟨rfl, HB8.out⟩
theorem short16_any (s : ByteArray) (w : World) (hs : s.size ≤ maxLen) : Calls Tryd.prog 13 #[.string s] w fun e w' => e = .returned (.bool (decide (s.size ≤ 3000))) ∧ w = w' := by
  unfold maxLen at hs
  by_cases h : s.size ≤ 3000
  · have e : decide (s.size ≤ 3000) = true := decide_eq_true h
    rw [e]
    clear e
    go_enter Tryd.func13, Tryd.ntmps13
    go_wp2
    go_ret
    exact ⟨ret_bool (decide_eq_true (by omega)), rfl⟩
  · have e : decide (s.size ≤ 3000) = false := decide_eq_false h
    rw [e]
    clear e
    go_enter Tryd.func13, Tryd.ntmps13
    go_wp2
    go_ret
    exact ⟨ret_bool (decide_eq_false (by omega)), rfl⟩
end Go.Proofs.YtlhjdjjbmljilaaDoor
