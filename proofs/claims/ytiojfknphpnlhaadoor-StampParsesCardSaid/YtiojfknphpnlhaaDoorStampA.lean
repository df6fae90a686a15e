/- WALKS of stamp.leap, leapsAhead, newYear, monthLength, mayBe, Days and of the reference's leap, long, until, Days. No statement is proved here. -/
import Derived.Test.YtiojfknphpnlhaaDoorKit
import Derived.Test.YtiojfknphpnlhaaDoorStampT
import Derived.Lib.LaidTab
namespace Go.Proofs.YtiojfknphpnlhaaDoor
open Go.RowKit
set_option linter.unusedVariables false
set_option linter.unusedSimpArgs false

def lenTab : List Int := [31, 28, 31, 30, 31, 30, 31, 31, 30, 31, 30, 31]
def monTab : List (List UInt8) := [[74, 97, 110], [70, 101, 98], [77, 97, 114], [65, 112, 114], [77, 97, 121], [74, 117, 110], [74, 117, 108], [65, 117, 103], [83, 101, 112], [79, 99, 116], [78, 111, 118], [68, 101, 99]]
def dayTab : List (List UInt8) := [[84, 104, 117], [70, 114, 105], [83, 97, 116], [83, 117, 110], [77, 111, 110], [84, 117, 101], [87, 101, 100]]
/-- what package stamp's tables, and two of the library's, hold -/
structure EnvS (w : World) : Prop where
  len : ∀ j : Nat, j < 12 → w.cell? ⟨3, j, none⟩ = some (.int .i64 (lenTab.getD j 0))
  mon : ∀ j : Nat, j < 12 → w.cell? ⟨2, j, none⟩ = some (.string (str (monTab.getD j [])))
  day : ∀ j : Nat, j < 7 → w.cell? ⟨0, j, none⟩ = some (.string (str (dayTab.getD j [])))
  zon : ∀ j : Nat, j < 12 → w.cell? ⟨1, j * 2, none⟩ = some (.string (str (zonNam.getD j ([], 0)).1)) ∧ w.cell? ⟨1, j * 2 + 1, none⟩ = some (.int .i64 (zonNam.getD j ([], 0)).2)
  pow : Lib.TabIs Tryd.prog w "internal/strconv.uint64pow10" .u64 Lib.pow10Tab
  max : ∃ m : Int, w.cell? ⟨4, 0, none⟩ = some (.int .i64 m)

theorem leapB_bool (y : Int) : leapB y = ((y % 4 == 0 && y % 100 != 0) || y % 400 == 0) := by
  unfold leapB
  rw [Bool.eq_iff_iff, decide_eq_true_eq]
  simp
set_option maxHeartbeats 400000 in
theorem leap_any (y : Int) (w : World) (h0 : 0 ≤ y) (h1 : y ≤ 100000) :
    Calls Tryd.prog 53 #[.int .i64 y] w fun e w' => e = .returned (.bool (leapB y)) ∧ w = w' := by
  have hb := leapB_bool y
  cases h4 : (y % 4 == 0) <;> cases h100 : (y % 100 != 0) <;> cases h400 : (y % 400 == 0)
  all_goals
    rw [h4, h100, h400] at hb
    have HB := hide hb
    clear hb
    go_enter Tryd.func53, Tryd.ntmps53
    go_wp2
    go_ret
    exact ⟨ret_bool HB.out.symm, rfl⟩
set_option maxHeartbeats 400000 in
theorem refLeap_any (y : Int) (w : World) (h0 : 0 ≤ y) (h1 : y ≤ 100000) :
    Calls Tryd.prog 30 #[.int .i64 y] w fun e w' => e = .returned (.bool (leapB y)) ∧ w = w' := by
  have hb := leapB_bool y
  cases h4 : (y % 4 == 0) <;> cases h100 : (y % 100 != 0) <;> cases h400 : (y % 400 == 0)
  all_goals
    rw [h4, h100, h400] at hb
    have HB := hide hb
    clear hb
    go_enter Tryd.func30, Tryd.ntmps30
    go_wp2
    go_ret
    exact ⟨ret_bool HB.out.symm, rfl⟩
theorem leaps_any (y : Int) (w : World) (h0 : 1 ≤ y) (h1 : y ≤ 100000) :
    Calls Tryd.prog 49 #[.int .i64 y] w fun e w' => e = .returned (.int .i64 (lp (y - 1))) ∧ w = w' := by
  go_enter Tryd.func49, Tryd.ntmps49
  go_wp2
  go_ret
  exact ⟨rfl, rfl⟩
theorem refUntil_any (y : Int) (w : World) (h0 : 0 ≤ y) (h1 : y ≤ 100000) :
    Calls Tryd.prog 36 #[.int .i64 y] w fun e w' => e = .returned (.int .i64 (lp y)) ∧ w = w' := by
  go_enter Tryd.func36, Tryd.ntmps36
  go_wp2
  go_ret
  exact ⟨rfl, rfl⟩
theorem lp_bd (y : Int) (h0 : 0 ≤ y) (h1 : y ≤ 100000) : 0 ≤ lp y ∧ lp y ≤ 100000 := by unfold lp; omega
theorem newYear_any (y : Int) (w : World) (h0 : 1900 ≤ y) (h1 : y ≤ 10000) :
    Calls Tryd.prog 27 #[.int .i64 y] w fun e w' => e = .returned (.int .i64 (newY y)) ∧ w = w' := by
  have hl := lp_bd (y - 1) (by omega) (by omega)
  have e1 : lp (1970 - 1) = 477 := by decide
  have HE := hide e1
  clear e1
  go_enter Tryd.func27, Tryd.ntmps27
  go_wp2_with fail
  refine (leaps_any y _ (by omega) (by omega)).mono ?_
  rintro e w1 ⟨rfl, rfl⟩
  go_wp2_with fail
  refine (leaps_any 1970 _ (by omega) (by omega)).mono ?_
  rintro e w1 ⟨rfl, rfl⟩
  rw [HE.out]
  go_wp2_with fail
  go_ret
  exact ⟨ret_int (by unfold newY; omega), rfl⟩
theorem dim_other (y m : Int) (h : m ≠ 2) (h1 : 1 ≤ m) (h2 : m ≤ 12) : lenTab.getD (m - 1).toNat 0 = dim y m := by
  obtain rfl | rfl | rfl | rfl | rfl | rfl | rfl | rfl | rfl | rfl | rfl : m = 1 ∨ m = 3 ∨ m = 4 ∨ m = 5 ∨ m = 6 ∨ m = 7 ∨ m = 8 ∨ m = 9 ∨ m = 10 ∨ m = 11 ∨ m = 12 := by omega
  all_goals rfl
set_option maxHeartbeats 400000 in
theorem monthLength_any (y m : Int) (w : World) (hE : EnvS w) (h0 : 1900 ≤ y) (h1 : y ≤ 9999) (h2 : 1 ≤ m) (h3 : m ≤ 12) :
    Calls Tryd.prog 35 #[.int .i64 y, .int .i64 m] w fun e w' => e = .returned (.int .i64 (dim y m)) ∧ w = w' := by
  have hc := hE.len (m - 1).toNat (by omega)
  clear hE
  by_cases hm : m = 2
  · subst hm
    have hc' : w.cell? ⟨3, 1, none⟩ = some (.int .i64 28) := hc
    have hd : dim y 2 = if leapB y = true then 29 else 28 := rfl
    clear hc
    cases hl : leapB y
    all_goals
      rw [hl] at hd
      have HD := hide hd
      have HL := hide hl
      clear hd hl
      go_enter Tryd.func35, Tryd.ntmps35
      go_wp2_with fail
      refine (leap_any y _ (by omega) (by omega)).mono ?_
      rintro e w1 ⟨rfl, rfl⟩
      rw [HL.out]
      go_wp2_with fail
      go_ret
      exact ⟨ret_int (by rw [HD.out]; rfl), rfl⟩
  · have hd := dim_bd y m
    rw [dim_other y m hm h2 h3, show (m - 1).toNat = m.toNat - 1 by omega] at hc
    have hne : (m == 2) = false := by rw [beq_eq_false_iff_ne]; exact hm
    go_enter Tryd.func35, Tryd.ntmps35
    go_wp2
    go_ret
    exact ⟨rfl, rfl⟩

set_option maxHeartbeats 1000000 in
theorem mayBe_any (y m d : Int) (w : World) (hE : EnvS w) :
    Calls Tryd.prog 34 #[.int .i64 y, .int .i64 m, .int .i64 d] w fun e w' => e = .returned (.bool (mayB y m d)) ∧ w = w' := by
  have HE := hide hE
  clear hE
  by_cases c1 : y < 1900
  · have HF : Hid (mayB y m d = false) := mayB_no.2 (by unfold MayD; omega)
    have t1 : decide (y < 1900) = true := decide_eq_true c1
    clear c1
    go_enter Tryd.func34, Tryd.ntmps34
    go_wp2
    go_ret
    exact ⟨ret_bool HF.out.symm, rfl⟩
  have t1 : decide (y < 1900) = false := decide_eq_false c1
  by_cases c2 : 9999 < y
  · have HF : Hid (mayB y m d = false) := mayB_no.2 (by unfold MayD; omega)
    have t2 : decide (9999 < y) = true := decide_eq_true c2
    clear c1 c2
    go_enter Tryd.func34, Tryd.ntmps34
    go_wp2
    go_ret
    exact ⟨ret_bool HF.out.symm, rfl⟩
  have t2 : decide (9999 < y) = false := decide_eq_false c2
  by_cases c3 : m < 1
  · have HF : Hid (mayB y m d = false) := mayB_no.2 (by unfold MayD; omega)
    have t3 : decide (m < 1) = true := decide_eq_true c3
    clear c1 c2 c3
    go_enter Tryd.func34, Tryd.ntmps34
    go_wp2
    go_ret
    exact ⟨ret_bool HF.out.symm, rfl⟩
  have t3 : decide (m < 1) = false := decide_eq_false c3
  by_cases c4 : 12 < m
  · have HF : Hid (mayB y m d = false) := mayB_no.2 (by unfold MayD; omega)
    have t4 : decide (12 < m) = true := decide_eq_true c4
    clear c1 c2 c3 c4
    go_enter Tryd.func34, Tryd.ntmps34
    go_wp2
    go_ret
    exact ⟨ret_bool HF.out.symm, rfl⟩
  have t4 : decide (12 < m) = false := decide_eq_false c4
  by_cases c5 : 1 ≤ d
  · have t5 : decide (1 ≤ d) = true := decide_eq_true c5
    have HF : Hid (mayB y m d = decide (d ≤ dim y m)) := hide (by
      rw [Bool.eq_iff_iff, mayB_iff, decide_eq_true_eq]; unfold MayD; omega)
    have n1 : 1900 ≤ y := by omega
    have n2 : y ≤ 9999 := by omega
    have n3 : 1 ≤ m := by omega
    have n4 : m ≤ 12 := by omega
    clear c1 c2 c3 c4 c5
    go_enter Tryd.func34, Tryd.ntmps34
    go_wp2_with fail
    refine (monthLength_any y m _ HE.out n1 n2 n3 n4).mono ?_
    rintro e w1 ⟨rfl, rfl⟩
    go_wp2_with fail
    go_ret
    exact ⟨ret_bool HF.out.symm, rfl⟩
  · have t5 : decide (1 ≤ d) = false := decide_eq_false c5
    have HF : Hid (mayB y m d = false) := mayB_no.2 (by unfold MayD; omega)
    clear c1 c2 c3 c4 c5
    go_enter Tryd.func34, Tryd.ntmps34
    go_wp2
    go_ret
    exact ⟨ret_bool HF.out.symm, rfl⟩

/-- what Days answers -/
def daysV (y m d : Int) : Value := if mayB y m d = true then .tuple #[.int .i64 (daysZ y m d), .int .i64 0] else .tuple #[.int .i64 0, .int .i64 1]
set_option maxHeartbeats 1000000 in
theorem days_any (y m d : Int) (w : World) (hE : EnvS w) :
    Calls Tryd.prog 15 #[.int .i64 y, .int .i64 m, .int .i64 d] w fun e w' => e = .returned (daysV y m d) ∧ w = w' := by
  have HE := hide hE
  clear hE
  cases hm : mayB y m d
  · have HV : Hid (daysV y m d = .tuple #[.int .i64 0, .int .i64 1]) := hide (by unfold daysV; rw [hm, if_neg (by simp)])
    have HM := hide hm
    clear hm
    go_enter Tryd.func15, Tryd.ntmps15
    go_wp2_with fail
    refine (mayBe_any y m d _ HE.out).mono ?_
    rintro e w1 ⟨rfl, rfl⟩
    rw [HM.out]
    go_wp2_with fail
    go_ret2
    exact ⟨by rw [HV.out]; rfl, rfl⟩
  · have HV : Hid (daysV y m d = .tuple #[.int .i64 (daysZ y m d), .int .i64 0]) := hide (by unfold daysV; rw [hm, if_pos rfl])
    have hmm := mayB_iff.1 hm
    obtain ⟨n1, n2, n3, n4, n5, n6⟩ := hmm
    have hdb := dim_bd y m
    have hnb := newY_bd y (by omega) (by omega)
    have HM := hide hm
    clear hm
    go_enter Tryd.func15, Tryd.ntmps15
    go_wp2_with fail
    refine (mayBe_any y m d _ HE.out).mono ?_
    rintro e w1 ⟨rfl, rfl⟩
    rw [HM.out]
    go_wp2_with fail
    refine (newYear_any y _ n1 (by omega)).mono ?_
    rintro e w1 ⟨rfl, rfl⟩
    go_wp2_with fail
    go_loop [8, 9] (fun a i => ∃ j : Nat, (j : Int) + 1 ≤ m ∧ i = .int .i64 ((j : Int) + 1) ∧ a = .int .i64 (newY y + d - 1 + cumN y j)) (fun _ i => (m - intOf i).toNat)
    case atStart => exact ⟨0, by omega, rfl, by rw [show cumN y 0 = 0 from rfl]; go_num⟩
    case round =>
      obtain ⟨j, k2, rfl, rfl⟩ := hrel
      have hcl := cumN_le y j (by omega)
      have hcn := cumN_nn y j
      have HS := hide (cumN_succ y j)
      by_cases hlt : (j : Int) + 1 < m
      · have hdk := dim_bd y ((j : Int) + 1)
        go_wp2_with fail
        refine (monthLength_any y ((j : Int) + 1) _ HE.out n1 n2 (by omega) (by omega)).mono ?_
        rintro e w1 ⟨rfl, rfl⟩
        go_wp2_with fail
        go_round
        case rel => exact ⟨j + 1, by omega, by go_num, by rw [HS.out]; go_num⟩
        case measure => simp [intOf]; omega
      · have HC : Hid (daysZ y m d = newY y + d - 1 + cumN y j) := hide (by unfold daysZ; rw [show (m - 1).toNat = j by omega]; omega)
        go_wp2
        go_ret2
        exact ⟨by rw [HV.out, HC.out]; rfl, rfl⟩

theorem refLong_any (y m : Int) (w : World) (h0 : 0 ≤ y) (h1 : y ≤ 100000) :
    Calls Tryd.prog 31 #[.int .i64 y, .int .i64 m] w fun e w' => e = .returned (.int .i64 (dim y m)) ∧ w = w' := by
  by_cases hm : m = 2
  · subst hm
    have hd : dim y 2 = if leapB y = true then 29 else 28 := rfl
    cases hl : leapB y
    all_goals
      rw [hl] at hd
      have HD := hide hd
      have HL := hide hl
      clear hd hl
      go_enter Tryd.func31, Tryd.ntmps31
      go_wp2_with fail
      refine (refLeap_any y _ (by omega) (by omega)).mono ?_
      rintro e w1 ⟨rfl, rfl⟩
      rw [HL.out]
      go_wp2_with fail
      go_ret
      exact ⟨ret_int (by rw [HD.out]; rfl), rfl⟩
  · have t2 : (m == 2) = false := beq_eq_false_iff_ne.2 hm
    by_cases h4 : m = 4
    · subst h4
      have HD : Hid (dim y 4 = 30) := hide rfl
      go_enter Tryd.func31, Tryd.ntmps31
      go_wp2
      go_ret
      exact ⟨ret_int HD.out.symm, rfl⟩
    have t4 : (m == 4) = false := beq_eq_false_iff_ne.2 h4
    by_cases h6 : m = 6
    · subst h6
      have HD : Hid (dim y 6 = 30) := hide rfl
      go_enter Tryd.func31, Tryd.ntmps31
      go_wp2
      go_ret
      exact ⟨ret_int HD.out.symm, rfl⟩
    have t6 : (m == 6) = false := beq_eq_false_iff_ne.2 h6
    by_cases h9 : m = 9
    · subst h9
      have HD : Hid (dim y 9 = 30) := hide rfl
      go_enter Tryd.func31, Tryd.ntmps31
      go_wp2
      go_ret
      exact ⟨ret_int HD.out.symm, rfl⟩
    have t9 : (m == 9) = false := beq_eq_false_iff_ne.2 h9
    by_cases h11 : m = 11
    · subst h11
      have HD : Hid (dim y 11 = 30) := hide rfl
      go_enter Tryd.func31, Tryd.ntmps31
      go_wp2
      go_ret
      exact ⟨ret_int HD.out.symm, rfl⟩
    have t11 : (m == 11) = false := beq_eq_false_iff_ne.2 h11
    have HD : Hid (dim y m = 31) := hide (by unfold dim; rw [if_neg hm, if_neg (by omega)])
    clear hm h4 h6 h9 h11
    go_enter Tryd.func31, Tryd.ntmps31
    go_wp2
    go_ret
    exact ⟨ret_int HD.out.symm, rfl⟩

set_option maxHeartbeats 1000000 in
theorem refDays_any (y m d : Int) (w : World) :
    Calls Tryd.prog 16 #[.int .i64 y, .int .i64 m, .int .i64 d] w fun e w' => e = .returned (daysV y m d) ∧ w = w' := by
  by_cases c1 : y < 1900
  · have HV : Hid (daysV y m d = .tuple #[.int .i64 0, .int .i64 1]) := hide (by unfold daysV; rw [mayB_no.2 (by unfold MayD; omega), if_neg (by simp)])
    have t1 : decide (y < 1900) = true := decide_eq_true c1
    clear c1
    go_enter Tryd.func16, Tryd.ntmps16
    go_wp2
    go_ret2
    exact ⟨by rw [HV.out]; rfl, rfl⟩
  have t1 : decide (y < 1900) = false := decide_eq_false c1
  by_cases c2 : 9999 < y
  · have HV : Hid (daysV y m d = .tuple #[.int .i64 0, .int .i64 1]) := hide (by unfold daysV; rw [mayB_no.2 (by unfold MayD; omega), if_neg (by simp)])
    have t2 : decide (9999 < y) = true := decide_eq_true c2
    clear c1 c2
    go_enter Tryd.func16, Tryd.ntmps16
    go_wp2
    go_ret2
    exact ⟨by rw [HV.out]; rfl, rfl⟩
  have t2 : decide (9999 < y) = false := decide_eq_false c2
  by_cases c3 : m < 1
  · have HV : Hid (daysV y m d = .tuple #[.int .i64 0, .int .i64 1]) := hide (by unfold daysV; rw [mayB_no.2 (by unfold MayD; omega), if_neg (by simp)])
    have t3 : decide (m < 1) = true := decide_eq_true c3
    clear c1 c2 c3
    go_enter Tryd.func16, Tryd.ntmps16
    go_wp2
    go_ret2
    exact ⟨by rw [HV.out]; rfl, rfl⟩
  have t3 : decide (m < 1) = false := decide_eq_false c3
  by_cases c4 : 12 < m
  · have HV : Hid (daysV y m d = .tuple #[.int .i64 0, .int .i64 1]) := hide (by unfold daysV; rw [mayB_no.2 (by unfold MayD; omega), if_neg (by simp)])
    have t4 : decide (12 < m) = true := decide_eq_true c4
    clear c1 c2 c3 c4
    go_enter Tryd.func16, Tryd.ntmps16
    go_wp2
    go_ret2
    exact ⟨by rw [HV.out]; rfl, rfl⟩
  have t4 : decide (12 < m) = false := decide_eq_false c4
  by_cases c5 : d < 1
  · have HV : Hid (daysV y m d = .tuple #[.int .i64 0, .int .i64 1]) := hide (by unfold daysV; rw [mayB_no.2 (by unfold MayD; omega), if_neg (by simp)])
    have t5 : decide (d < 1) = true := decide_eq_true c5
    clear c1 c2 c3 c4 c5
    go_enter Tryd.func16, Tryd.ntmps16
    go_wp2
    go_ret2
    exact ⟨by rw [HV.out]; rfl, rfl⟩
  have t5 : decide (d < 1) = false := decide_eq_false c5
  have n1 : 1900 ≤ y := by omega
  have n2 : y ≤ 9999 := by omega
  have n3 : 1 ≤ m := by omega
  have n4 : m ≤ 12 := by omega
  have n5 : 1 ≤ d := by omega
  by_cases c6 : dim y m < d
  · have HV : Hid (daysV y m d = .tuple #[.int .i64 0, .int .i64 1]) := hide (by unfold daysV; rw [mayB_no.2 (by unfold MayD; omega), if_neg (by simp)])
    have t6 : decide (dim y m < d) = true := decide_eq_true c6
    clear c1 c2 c3 c4 c5 c6
    go_enter Tryd.func16, Tryd.ntmps16
    go_wp2_with fail
    refine (refLong_any y m _ (by omega) (by omega)).mono ?_
    rintro e w1 ⟨rfl, rfl⟩
    go_wp2_with fail
    go_ret2
    exact ⟨by rw [HV.out]; rfl, rfl⟩
  have t6 : decide (dim y m < d) = false := decide_eq_false c6
  have HV : Hid (daysV y m d = .tuple #[.int .i64 (daysZ y m d), .int .i64 0]) := hide (by unfold daysV; rw [mayB_iff.2 (by unfold MayD; omega), if_pos rfl])
  have n6 : d ≤ dim y m := by omega
  clear c1 c2 c3 c4 c5 c6
  have hdb := dim_bd y m
  have hnb := newY_bd y (by omega) (by omega)
  have hl := lp_bd (y - 1) (by omega) (by omega)
  have e1 : lp 1969 = 477 := by decide
  have HE1 := hide e1
  have HN : Hid (365 * (y - 1970) + lp (y - 1) - 477 = newY y) := hide rfl
  clear e1
  go_enter Tryd.func16, Tryd.ntmps16
  go_wp2_with fail
  refine (refLong_any y m _ (by omega) (by omega)).mono ?_
  rintro e w1 ⟨rfl, rfl⟩
  go_wp2_with fail
  refine (refUntil_any (y - 1) _ (by omega) (by omega)).mono ?_
  rintro e w1 ⟨rfl, rfl⟩
  go_wp2_with fail
  refine (refUntil_any 1969 _ (by omega) (by omega)).mono ?_
  rintro e w1 ⟨rfl, rfl⟩
  rw [HE1.out]
  go_wp2_with fail
  go_loop [8, 9] (fun a i => ∃ j : Nat, (j : Int) + 1 ≤ m ∧ i = .int .i64 ((j : Int) + 1) ∧ a = .int .i64 (newY y + cumN y j)) (fun _ i => (m - intOf i).toNat)
  case atStart => exact ⟨0, by omega, rfl, by rw [show cumN y 0 = 0 from rfl, ← HN.out]; go_num⟩
  case round =>
    obtain ⟨j, k2, rfl, rfl⟩ := hrel
    have hcl := cumN_le y j (by omega)
    have hcn := cumN_nn y j
    have HS := hide (cumN_succ y j)
    by_cases hlt : (j : Int) + 1 < m
    · have hdk := dim_bd y ((j : Int) + 1)
      go_wp2_with fail
      refine (refLong_any y ((j : Int) + 1) _ (by omega) (by omega)).mono ?_
      rintro e w1 ⟨rfl, rfl⟩
      go_wp2_with fail
      go_round
      case rel => exact ⟨j + 1, by omega, by go_num, by rw [HS.out]; go_num⟩
      case measure => simp [intOf]; omega
    · have HC : Hid (daysZ y m d = newY y + cumN y j + d - 1) := hide (by unfold daysZ; rw [show (m - 1).toNat = j by omega])
      go_wp2
      go_ret2
      exact ⟨by rw [HV.out, HC.out]; rfl, rfl⟩
end Go.Proofs.YtiojfknphpnlhaaDoor
