/- WALK of the law CssCuts. No statement is proved here. Own work of the verifier. -/
import Derived.Test.YtlhjdjjbmljilaaDoorCssL0
import Derived.Test.YtlhjdjjbmljilaaDoorCssX
namespace Go.Proofs.YtlhjdjjbmljilaaDoor
open Go.RowKit
set_option linter.unusedVariables false
set_option linter.unusedSimpArgs false
set_option maxRecDepth 100000
attribute [local go_sem] eqTwo
set_option maxHeartbeats 4000000 in
theorem law_CssCuts (s : ByteArray) (hss : s.size ≤ maxLen) (w : World) (hE : EnvC w) :
    Calls Tryd.prog 7 #[.string s] w fun e w' => e = .returned (.bool true) ∧ Below w.heap.size w w' := by
  rcases Nat.lt_or_ge 3000 s.size with hqs | hls
  · have HDs : Hid (decide (s.size ≤ 3000) = false) := decide_eq_false (by omega)
    have HE := hide hE
    clear hE
    go_enter Tryd.func7, Tryd.ntmps7
    go_wp2_with fail
    refine (short17_any s _ hss).mono ?_
    rintro e w1 ⟨rfl, rfl⟩
    rw [HDs.out]
    go_wp2_with fail
    refine (live17_any _ HE.out).mono ?_
    rintro e w1 ⟨rfl, hb1⟩
    go_wp2_with fail
    go_ret
    exact ⟨rfl, hb1⟩
  have HDs : Hid (decide (s.size ≤ 3000) = true) := decide_eq_true hls
  obtain ⟨D, hD⟩ : ∃ D, cutD s.data.toList = D := ⟨_, rfl⟩
  have hDl : D.length ≤ 1048576 := by
    have h8 := cutD_weight s.data.toList
    rw [hD, toList_length] at h8
    have := declW_len D
    omega
  obtain ⟨C, hC⟩ : ∃ C, C = str (cleanD s.data.toList) := ⟨_, rfl⟩
  have HD := hide hD
  have HC := hide hC
  have HDL := hide hDl
  have HE0 := hide hE
  have HB0 : Hid (Below w.heap.size w w) := hide (Below.refl _ _)
  clear hD hC hDl hE
  go_enter Tryd.func7, Tryd.ntmps7
  go_wp2_with fail
  refine (short17_any s _ hss).mono ?_
  rintro e w1 ⟨rfl, rfl⟩
  rw [HDs.out]
  go_wp2_with fail
  refine (cssCut_any s _ (by omega)).mono ?_
  rintro e w3 ⟨v3, rfl, hd3⟩
  rw [HD.out] at hd3
  have K3 := hide hd3.below
  have F3 := hide hd3.in
  clear hd3
  go_wp2_with fail
  refine (ref17Cut_any s _ (by omega)).mono ?_
  rintro e w5 ⟨v5, rfl, hd5⟩
  rw [HD.out] at hd5
  have K5 := hide (K3.out.trans (hd5.below.mono K3.out.size))
  have F4 := hide (F3.out.kept hd5.below)
  have F5 := hide hd5.in
  clear hd5
  go_wp2_with fail
  refine (same17_any _ _ D D _ F4.out F5.out HDL.out).mono ?_
  rintro e w6 ⟨rfl, hb⟩
  rw [show decide (D = D) = true from decide_eq_true rfl]
  have HB6 := hide (K5.out.trans (hb.mono K5.out.size))
  have HE6 := hide (HE0.out.kept HB6.out)
  clear hb
  go_wp2_with fail
  refine (cssClean_any s (by omega) _ HE6.out).mono ?_
  rintro e w7_ ⟨rfl, hb⟩
  have HE7 := hide (HE6.out.kept hb)
  have HB7 := hide (HB6.out.trans (hb.mono HB6.out.size))
  clear hb
  rw [← HC.out]
  go_wp2_with fail
  refine (ref17Clean_any s _ (by omega)).mono ?_
  rintro e w8_ ⟨rfl, hb⟩
  have HE8 := hide (HE7.out.kept hb)
  have HB8 := hide (HB7.out.trans (hb.mono HB7.out.size))
  clear hb
  rw [← HC.out]
  go_wp2_with fail
  refine (live17_any _ HE8.out).mono ?_
  rintro e w9_ ⟨rfl, hb⟩
  go_wp2_with fail
  go_ret
  exact ⟨rfl, HB8.out.trans (hb.mono HB8.out.size)⟩
end Go.Proofs.YtlhjdjjbmljilaaDoor
