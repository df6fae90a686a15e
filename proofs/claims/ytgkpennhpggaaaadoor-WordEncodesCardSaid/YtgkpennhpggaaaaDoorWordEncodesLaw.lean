/- WALK of the law WordEncodes. No statement is proved here. -/
import Derived.Test.YtgkpennhpggaaaaDoorWordLaw0
import Derived.Test.YtgkpennhpggaaaaDoorRef05E
namespace Go.Proofs.YtgkpennhpggaaaaDoor
open Go.RowKit
set_option linter.unusedVariables false
set_option linter.unusedSimpArgs false
set_option maxRecDepth 100000

set_option maxHeartbeats 2000000 in
theorem law_WordEncodes (s : ByteArray) (hss : s.size ≤ maxLen) (w : World) (hE : Env w) :
    Calls Tryd.prog 4 #[.string s] w fun e w' => e = .returned (.bool true) ∧ Below w.heap.size w w' := by
  have HE := hide hE
  clear hE
  rcases Nat.lt_or_ge 2000 s.size with hqs | hs
  · have HDs : Hid (decide (s.size ≤ 2000) = false) := decide_eq_false (by omega)
    go_enter Tryd.func4, Tryd.ntmps4
    go_wp2_with fail
    refine (short5_any s _ hss).mono ?_
    rintro e w1 ⟨rfl, rfl⟩
    rw [HDs.out]
    go_wp2_with fail
    refine (live5_any _ HE.out).mono ?_
    rintro e w1 ⟨rfl, hb1⟩
    go_wp2_with fail
    go_ret
    exact ⟨rfl, hb1⟩
  have HDs : Hid (decide (s.size ≤ 2000) = true) := decide_eq_true hs
  obtain ⟨t, ht⟩ : ∃ t, t = str (encodeL s.data.toList) := ⟨_, rfl⟩
  have HT := hide ht
  clear ht
  go_enter Tryd.func4, Tryd.ntmps4
  go_wp2_with fail
  refine (short5_any s _ hss).mono ?_
  rintro e w1 ⟨rfl, rfl⟩
  rw [HDs.out]
  go_wp2_with fail
  obtain ⟨_, m, hm⟩ := HE.out
  have HM := hide hm
  clear hm
  refine (wordEncode_any s m _ (by omega) HM.out).mono ?_
  rintro e w1 ⟨rfl, hb1⟩
  rw [← HT.out]
  go_wp2_with fail
  refine (refWEncode_any s _ (by omega)).mono ?_
  rintro e w2 ⟨rfl, hb2⟩
  rw [← HT.out]
  have k2 := hb1.trans (hb2.mono hb1.size)
  go_wp2_with fail
  refine (live5_any _ (HE.out.kept k2)).mono ?_
  rintro e wl ⟨rfl, hbl⟩
  go_wp2_with fail
  go_ret
  exact ⟨rfl, k2.trans (hbl.mono k2.size)⟩
end Go.Proofs.YtgkpennhpggaaaaDoor
