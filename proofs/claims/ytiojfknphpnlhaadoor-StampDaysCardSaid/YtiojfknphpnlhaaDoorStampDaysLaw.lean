/- WALK of the law StampDays. The statement itself: the row's text. -/
import Derived.Test.YtiojfknphpnlhaaDoorStampLaw0
import Derived.Test.YtiojfknphpnlhaaDoorStampLawD
namespace Go.Proofs.YtiojfknphpnlhaaDoor
set_option maxRecDepth 100000
open Go.RowKit
set_option linter.unusedVariables false
set_option linter.unusedSimpArgs false

set_option maxHeartbeats 400000 in
theorem law_StampDays (y m d : Int) (w : World) (hE : EnvS w) :
    Calls Tryd.prog 5 #[.int .i64 y, .int .i64 m, .int .i64 d] w fun e w' => e = .returned (.bool true) ∧ Below w.heap.size w w' := by
  have HE := hide hE
  clear hE
  by_cases hm : MayD y m d
  · have HV := hide (daysV_yes hm)
    clear hm
    go_enter Tryd.func5, Tryd.ntmps5
    go_wp2_with fail
    refine (days_any y m d _ HE.out).mono ?_
    rintro e w1 ⟨rfl, rfl⟩
    rw [HV.out]
    go_wp2_with fail
    refine (refDays_any y m d _).mono ?_
    rintro e w1 ⟨rfl, rfl⟩
    rw [HV.out]
    go_wp2_with fail
    refine (live9_any _ HE.out).mono ?_
    rintro e wl ⟨rfl, hbl⟩
    have HBL := hide hbl
    clear hbl
    go_wp2_with fail
    go_ret
    exact ⟨rfl, HBL.out⟩
  · have HV := hide (daysV_no hm)
    clear hm
    go_enter Tryd.func5, Tryd.ntmps5
    go_wp2_with fail
    refine (days_any y m d _ HE.out).mono ?_
    rintro e w1 ⟨rfl, rfl⟩
    rw [HV.out]
    go_wp2_with fail
    refine (refDays_any y m d _).mono ?_
    rintro e w1 ⟨rfl, rfl⟩
    rw [HV.out]
    go_wp2_with fail
    refine (live9_any _ HE.out).mono ?_
    rintro e wl ⟨rfl, hbl⟩
    have HBL := hide hbl
    clear hbl
    go_wp2_with fail
    go_ret
    exact ⟨rfl, HBL.out⟩
end Go.Proofs.YtiojfknphpnlhaaDoor
