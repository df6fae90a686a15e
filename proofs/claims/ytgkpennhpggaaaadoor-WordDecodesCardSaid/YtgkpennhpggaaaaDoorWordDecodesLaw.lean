/- WALK of the law WordDecodes. No statement is proved here. -/
import Derived.Test.YtgkpennhpggaaaaDoorWordLaw0
import Derived.Test.YtgkpennhpggaaaaDoorRef05D
namespace Go.Proofs.YtgkpennhpggaaaaDoor
open Go.RowKit
set_option linter.unusedVariables false
set_option linter.unusedSimpArgs false
set_option maxRecDepth 100000

set_option maxHeartbeats 2000000 in
theorem law_WordDecodes (s : ByteArray) (hss : s.size ≤ maxLen) (w : World) (hE : Env w) :
    Calls Tryd.prog 3 #[.string s] w fun e w' => e = .returned (.bool true) ∧ Below w.heap.size w w' := by
  have HE := hide hE
  clear hE
  rcases Nat.lt_or_ge 2000 s.size with hqs | hs
  · have HDs : Hid (decide (s.size ≤ 2000) = false) := decide_eq_false (by omega)
    go_enter Tryd.func3, Tryd.ntmps3
    go_wp2_with fail
    refine (short5_any s _ hss).mono ?_
    rintro e w1 ⟨rfl, rfl⟩
    rw [HDs.out]
    go_wp2_with fail
    refine (live5_any _ HE.out).mono ?_
    rintro e w1 ⟨rfl, hb1⟩
    go_wp2_with fail
    go_ret
    exact ⟨rfl, hb1⟩
  have HDs : Hid (decide (s.size ≤ 2000) = true) := decide_eq_true hs
  have zd := decW_length false [] s.data.toList
  rw [toList_length] at zd
  simp only [List.length_nil, Nat.zero_add] at zd
  obtain ⟨t, ht⟩ : ∃ t, t = str (decW false [] s.data.toList) := ⟨_, rfl⟩
  have HT := hide ht
  obtain ⟨u, hu⟩ : ∃ u, u = str (oneT s.data.toList) := ⟨_, rfl⟩
  have HO : Hid (oneV s.data.toList = .tuple #[.string u, .int .i64 (oneN s.data.toList)]) := hide (by rw [hu]; rfl)
  generalize oneN s.data.toList = n at HO
  clear zd ht hu
  go_enter Tryd.func3, Tryd.ntmps3
  go_wp2_with fail
  refine (short5_any s _ hss).mono ?_
  rintro e w1 ⟨rfl, rfl⟩
  rw [HDs.out]
  go_wp2_with fail
  refine (one_any s _ (by omega) HE.out.1).mono ?_
  rintro e w1 ⟨rfl, hb1⟩
  rw [HO.out]
  go_wp2_with fail
  refine (refOne_any s _ (by omega)).mono ?_
  rintro e w2 ⟨rfl, hb2⟩
  rw [HO.out]
  have k2 := hb1.trans (hb2.mono hb1.size)
  go_wp2_with fail
  refine (wordDecode_any s _ (by omega) (HE.out.kept k2).1).mono ?_
  rintro e w3 ⟨rfl, hb3⟩
  rw [← HT.out]
  have k3 := k2.trans (hb3.mono k2.size)
  go_wp2_with fail
  refine (refWDecode_any s _ (by omega)).mono ?_
  rintro e w4 ⟨rfl, hb4⟩
  rw [← HT.out]
  have k4 := k3.trans (hb4.mono k3.size)
  go_wp2_with fail
  refine (live5_any _ (HE.out.kept k4)).mono ?_
  rintro e wl ⟨rfl, hbl⟩
  go_wp2_with fail
  go_ret
  exact ⟨rfl, k4.trans (hbl.mono k4.size)⟩
end Go.Proofs.YtgkpennhpggaaaaDoor
