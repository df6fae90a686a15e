/- WALK of the law PctSizes. No statement is proved here. -/
import Derived.Test.YtienjpelmbldpaaPctLaw0
namespace Go.Proofs.Ytienjpelmbldpaa
open Go.RowKit
set_option linter.unusedVariables false
set_option linter.unusedSimpArgs false

set_option maxHeartbeats 1000000 in
theorem law_PctSizes (s : ByteArray) (hss : s.size ≤ maxLen) (w : World) :
    Calls Try.prog 7 #[.string s] w fun e w' => e = .returned (.bool true) ∧ Below w.heap.size w w' := by
  rcases Nat.lt_or_ge 5000 s.size with hqs | hs
  · have HDs : Hid (decide (s.size ≤ 5000) = false) := decide_eq_false (by omega)
    go_enter Try.func7, Try.ntmps7
    go_wp2_with fail
    refine (short3_any s _ hss).mono ?_
    rintro e w1 ⟨rfl, rfl⟩
    rw [HDs.out]
    go_wp2_with fail
    refine (live3_any _).mono ?_
    rintro e w1 ⟨rfl, hb1⟩
    go_wp2_with fail
    go_ret
    exact ⟨rfl, hb1⟩
  have HDs : Hid (decide (s.size ≤ 5000) = true) := decide_eq_true hs
  obtain ⟨t, ht⟩ : ∃ t, t = str (penc s.data.toList) := ⟨_, rfl⟩
  obtain ⟨d, hd⟩ : ∃ d, d = str (pdec s.data.toList) := ⟨_, rfl⟩
  have z1 := penc_length s.data.toList
  have z2 := pdec_length s.data.toList
  rw [toList_length] at z1 z2
  have zt : t.size = (penc s.data.toList).length := by rw [ht, str_size]
  have zd : d.size = (pdec s.data.toList).length := by rw [hd, str_size]
  rw [← zt] at z1
  rw [← zd] at z2
  obtain ⟨z1, z1'⟩ := z1
  obtain ⟨z2, z2'⟩ := z2
  have y1 : (s.size : Int) ≤ t.size := by omega
  have y2 : (t.size : Int) ≤ 3 * (s.size : Int) := by omega
  have y3 : (d.size : Int) ≤ s.size := by omega
  have y4 : (s.size : Int) ≤ 3 * (d.size : Int) := by omega
  have HT := hide ht
  have HE := hide hd
  clear ht hd zt zd
  go_enter Try.func7, Try.ntmps7
  go_wp2_with fail
  refine (short3_any s _ hss).mono ?_
  rintro e w1 ⟨rfl, rfl⟩
  rw [HDs.out]
  go_wp2_with fail
  refine (encode_any _ _ (by omega)).mono ?_
  rintro e w1 ⟨rfl, hb1⟩
  rw [← HT.out]
  go_wp2_with fail
  refine (decode_any _ _ (by omega)).mono ?_
  rintro e w2 ⟨rfl, hb2⟩
  rw [← HE.out]
  go_wp2_with fail
  have k2 := hb1.trans (hb2.mono hb1.size)
  refine (live3_any _).mono ?_
  rintro e wl ⟨rfl, hbl⟩
  go_wp2_with fail
  go_ret
  exact ⟨rfl, k2.trans (hbl.mono k2.size)⟩
end Go.Proofs.Ytienjpelmbldpaa
