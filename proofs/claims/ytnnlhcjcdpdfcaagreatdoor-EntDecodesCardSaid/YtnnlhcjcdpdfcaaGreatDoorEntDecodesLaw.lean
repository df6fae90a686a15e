/- WALK of the law EntDecodes. No statement is proved here. -/
import Derived.Test.YtnnlhcjcdpdfcaaGreatDoorEntL0
import Derived.Test.YtnnlhcjcdpdfcaaGreatDoorRef12D
namespace Go.Proofs.YtnnlhcjcdpdfcaaGreatDoor
open Go.RowKit
set_option linter.unusedVariables false
set_option linter.unusedSimpArgs false
set_option maxRecDepth 100000
set_option maxHeartbeats 4000000 in
theorem law_EntDecodes (s : ByteArray) (hss : s.size ≤ maxLen) (w : World) (hE : EnvX w) :
    Calls Tryz.prog 8 #[.string s] w fun e w' => e = .returned (.bool true) ∧ Below w.heap.size w w' := by
  have HE := hide hE
  clear hE
  rcases Nat.lt_or_ge 5000 s.size with hqs | hs
  · have HDs : Hid (decide (s.size ≤ 5000) = false) := hide (decide_eq_false (by omega))
    clear hqs
    go_enter Tryz.func8, Tryz.ntmps8
    go_wp2_with fail
    refine (short12_any s _ hss).mono ?_
    rintro e wq ⟨rfl, rfl⟩
    rw [HDs.out]
    go_wp2_with fail
    refine (live12_any _ HE.out).mono ?_
    rintro e wl ⟨rfl, hbl⟩
    go_wp2_with fail
    go_ret
    exact ⟨rfl, hbl⟩
  have HDs : Hid (decide (s.size ≤ 5000) = true) := hide (decide_eq_true hs)
  obtain ⟨X, hX⟩ : ∃ X, X = str (decE s.data.toList) := ⟨_, rfl⟩
  have HX : Hid (str (decE s.data.toList) = X) := hide hX.symm
  have hs2 : s.size ≤ 1048576 := by omega
  clear hX
  go_enter Tryz.func8, Tryz.ntmps8
  go_wp2_with fail
  refine (short12_any s _ hss).mono ?_
  rintro e wq ⟨rfl, rfl⟩
  rw [HDs.out]
  go_wp2_with fail
  refine (entDecode_any s _ hs2 HE.out.1).mono ?_
  rintro e w1 ⟨rfl, hb1⟩
  have HE1 := hide (HE.out.kept hb1)
  have HB1 := hide (hb1)
  clear hb1
  rw [HX.out]
  go_wp2_with fail
  refine (refDecode12_any s _ hs2).mono ?_
  rintro e w2 ⟨rfl, hb2⟩
  have HE2 := hide (HE1.out.kept hb2)
  have HB2 := hide (HB1.out.trans (hb2.mono HB1.out.size))
  clear hb2
  rw [HX.out]
  go_wp2_with fail
  refine (live12_any _ HE2.out).mono ?_
  rintro e w3 ⟨rfl, hb3⟩
  have HE3 := hide (HE2.out.kept hb3)
  have HB3 := hide (HB2.out.trans (hb3.mono HB2.out.size))
  clear hb3
  go_wp2_with fail
  go_ret
  exact ⟨rfl, HB3.out⟩
end Go.Proofs.YtnnlhcjcdpdfcaaGreatDoor
