/- WALK of the law StampNext. The statement itself: the row's text. -/
import Derived.Test.YtiojfknphpnlhaaDoorStampLaw0
import Derived.Test.YtiojfknphpnlhaaDoorStampLawD
namespace Go.Proofs.YtiojfknphpnlhaaDoor
set_option maxRecDepth 100000
open Go.RowKit
set_option linter.unusedVariables false
set_option linter.unusedSimpArgs false

set_option maxHeartbeats 1000000 in
theorem law_StampNext (y m d : Int) (w : World) (hE : EnvS w) :
    Calls Tryd.prog 7 #[.int .i64 y, .int .i64 m, .int .i64 d] w fun e w' => e = .returned (.bool true) ∧ Below w.heap.size w w' := by
  have HE := hide hE
  clear hE
  by_cases hm : MayD y m d
  · have HV := hide (daysV_yes hm)
    have hbd := days_bd _ _ _ hm
    obtain ⟨y0, y1, m0, m1, d0, d1⟩ := hm
    have hdm := dim_bd y m
    by_cases c1 : d < dim y m
    · have HN : Hid (daysV y m (d + 1) = .tuple #[.int .i64 (daysZ y m d + 1), .int .i64 0]) := hide (by rw [daysV_yes (by unfold MayD; omega), daysZ_next])
      clear c1
      go_enter Tryd.func7, Tryd.ntmps7
      go_wp2_with fail
      refine (days_any y m d _ HE.out).mono ?_
      rintro e w1 ⟨rfl, rfl⟩
      rw [HV.out]
      go_wp2_with fail
      refine (days_any y m (d + 1) _ HE.out).mono ?_
      rintro e w1 ⟨rfl, rfl⟩
      rw [HN.out]
      go_wp2_with fail
      refine (live9_any _ HE.out).mono ?_
      rintro e wl ⟨rfl, hbl⟩
      have HBL := hide hbl
      clear hbl
      go_wp2_with fail
      go_ret
      exact ⟨rfl, HBL.out⟩
    · have HN : Hid (daysV y m (d + 1) = .tuple #[.int .i64 0, .int .i64 1]) := hide (daysV_no (by unfold MayD; omega))
      have hde : d = dim y m := by omega
      by_cases c2 : m < 12
      · have HN2 : Hid (daysV y (m + 1) 1 = .tuple #[.int .i64 (daysZ y m d + 1), .int .i64 0]) := hide (by
          have := dim_bd y (m + 1)
          rw [daysV_yes (by unfold MayD; omega), daysZ_month y m m0, hde])
        clear c1 c2 hde
        go_enter Tryd.func7, Tryd.ntmps7
        go_wp2_with fail
        refine (days_any y m d _ HE.out).mono ?_
        rintro e w1 ⟨rfl, rfl⟩
        rw [HV.out]
        go_wp2_with fail
        refine (days_any y m (d + 1) _ HE.out).mono ?_
        rintro e w1 ⟨rfl, rfl⟩
        rw [HN.out]
        go_wp2_with fail
        refine (days_any y (m + 1) 1 _ HE.out).mono ?_
        rintro e w1 ⟨rfl, rfl⟩
        rw [HN2.out]
        go_wp2_with fail
        refine (live9_any _ HE.out).mono ?_
        rintro e wl ⟨rfl, hbl⟩
        have HBL := hide hbl
        clear hbl
        go_wp2_with fail
        go_ret
        exact ⟨rfl, HBL.out⟩
      · have hm12 : m = 12 := by omega
        have HN2 : Hid (daysV y (m + 1) 1 = .tuple #[.int .i64 0, .int .i64 1]) := hide (daysV_no (by unfold MayD; omega))
        by_cases c3 : y < 9999
        · have HN3 : Hid (daysV (y + 1) 1 1 = .tuple #[.int .i64 (daysZ y m d + 1), .int .i64 0]) := hide (by
            have := dim_bd (y + 1) 1
            rw [daysV_yes (by unfold MayD; omega), daysZ_year, hde, hm12]; rfl)
          clear c1 c2 c3 hde hm12
          go_enter Tryd.func7, Tryd.ntmps7
          go_wp2_with fail
          refine (days_any y m d _ HE.out).mono ?_
          rintro e w1 ⟨rfl, rfl⟩
          rw [HV.out]
          go_wp2_with fail
          refine (days_any y m (d + 1) _ HE.out).mono ?_
          rintro e w1 ⟨rfl, rfl⟩
          rw [HN.out]
          go_wp2_with fail
          refine (days_any y (m + 1) 1 _ HE.out).mono ?_
          rintro e w1 ⟨rfl, rfl⟩
          rw [HN2.out]
          go_wp2_with fail
          refine (days_any (y + 1) 1 1 _ HE.out).mono ?_
          rintro e w1 ⟨rfl, rfl⟩
          rw [HN3.out]
          go_wp2_with fail
          refine (live9_any _ HE.out).mono ?_
          rintro e wl ⟨rfl, hbl⟩
          have HBL := hide hbl
          clear hbl
          go_wp2_with fail
          go_ret
          exact ⟨rfl, HBL.out⟩
        · have HN3 : Hid (daysV (y + 1) 1 1 = .tuple #[.int .i64 0, .int .i64 1]) := hide (daysV_no (by unfold MayD; omega))
          have hd31 : d = 31 := by rw [hde, hm12]; rfl
          have hy99 : y = 9999 := by omega
          have u1 : (y == 9999) = true := by rw [beq_iff_eq]; exact hy99
          have u2 : (m == 12) = true := by rw [beq_iff_eq]; exact hm12
          have u3 : (d == 31) = true := by rw [beq_iff_eq]; exact hd31
          clear c1 c2 c3 hde hd31 hy99 hm12
          go_enter Tryd.func7, Tryd.ntmps7
          go_wp2_with fail
          refine (days_any y m d _ HE.out).mono ?_
          rintro e w1 ⟨rfl, rfl⟩
          rw [HV.out]
          go_wp2_with fail
          refine (days_any y m (d + 1) _ HE.out).mono ?_
          rintro e w1 ⟨rfl, rfl⟩
          rw [HN.out]
          go_wp2_with fail
          refine (days_any y (m + 1) 1 _ HE.out).mono ?_
          rintro e w1 ⟨rfl, rfl⟩
          rw [HN2.out]
          go_wp2_with fail
          refine (days_any (y + 1) 1 1 _ HE.out).mono ?_
          rintro e w1 ⟨rfl, rfl⟩
          rw [HN3.out]
          go_wp2_with fail
          refine (live9_any _ HE.out).mono ?_
          rintro e wl ⟨rfl, hbl⟩
          have HBL := hide hbl
          clear hbl
          go_wp2_with fail
          go_ret
          exact ⟨rfl, HBL.out⟩
  · have HV := hide (daysV_no hm)
    clear hm
    go_enter Tryd.func7, Tryd.ntmps7
    go_wp2_with fail
    refine (days_any y m d _ HE.out).mono ?_
    rintro e w1 ⟨rfl, rfl⟩
    rw [HV.out]
    go_wp2_with fail
    refine (live9_any _ HE.out).mono ?_
    rintro e wl ⟨rfl, hbl⟩
    have HBL := hide hbl
    clear hbl
    go_wp2_with fail
    go_ret
    exact ⟨rfl, HBL.out⟩
end Go.Proofs.YtiojfknphpnlhaaDoor
