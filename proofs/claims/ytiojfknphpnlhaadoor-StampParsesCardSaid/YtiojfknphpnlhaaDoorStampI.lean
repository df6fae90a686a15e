/- WALK of the reference's zone (stamp). No statement is proved here. -/
import Derived.Test.YtiojfknphpnlhaaDoorStampO
import Derived.Test.YtiojfknphpnlhaaDoorStampZ
namespace Go.Proofs.YtiojfknphpnlhaaDoor
set_option maxRecDepth 100000
open Go.RowKit
set_option linter.unusedVariables false
set_option linter.unusedSimpArgs false

theorem lit_ne {s : ByteArray} {l : List UInt8} (h : s.data.toList ≠ l) : (s.toList == l) = false := by
  rw [beq_eq_false_iff_ne, bytes_list]; exact h
theorem look_none (t : List UInt8) (h : ∀ x ∈ zonNam, t ≠ x.1) : zonNam.lookup t = none := by
  have : ∀ (L : List (List UInt8 × Int)), (∀ x ∈ L, t ≠ x.1) → L.lookup t = none := by
    intro L
    induction L with
    | nil => intro _; rfl
    | cons x r ih =>
      intro hx
      obtain ⟨a, b⟩ := x
      rw [List.lookup, show (t == a) = false from beq_eq_false_iff_ne.2 (hx (a, b) (List.mem_cons_self ..))]
      exact ih (fun x hx' => hx x (List.mem_cons_of_mem _ hx'))
  exact this zonNam h
theorem refZone_ut (w : World) : Calls Tryd.prog 26 #[.string ⟨#[117, 116]⟩] w fun e w' => e = .returned (.tuple #[.int .i64 0, .bool true]) ∧ w = w' := by
  go_enter Tryd.func26, Tryd.ntmps26
  go_wp2_with fail
  go_ret2
  exact ⟨rfl, rfl⟩
theorem refZone_utc (w : World) : Calls Tryd.prog 26 #[.string ⟨#[117, 116, 99]⟩] w fun e w' => e = .returned (.tuple #[.int .i64 0, .bool true]) ∧ w = w' := by
  go_enter Tryd.func26, Tryd.ntmps26
  go_wp2_with fail
  go_ret2
  exact ⟨rfl, rfl⟩
theorem refZone_gmt (w : World) : Calls Tryd.prog 26 #[.string ⟨#[103, 109, 116]⟩] w fun e w' => e = .returned (.tuple #[.int .i64 0, .bool true]) ∧ w = w' := by
  go_enter Tryd.func26, Tryd.ntmps26
  go_wp2_with fail
  go_ret2
  exact ⟨rfl, rfl⟩
theorem refZone_z (w : World) : Calls Tryd.prog 26 #[.string ⟨#[122]⟩] w fun e w' => e = .returned (.tuple #[.int .i64 0, .bool true]) ∧ w = w' := by
  go_enter Tryd.func26, Tryd.ntmps26
  go_wp2_with fail
  go_ret2
  exact ⟨rfl, rfl⟩
theorem refZone_edt (w : World) : Calls Tryd.prog 26 #[.string ⟨#[101, 100, 116]⟩] w fun e w' => e = .returned (.tuple #[.int .i64 (-14400), .bool true]) ∧ w = w' := by
  go_enter Tryd.func26, Tryd.ntmps26
  go_wp2_with fail
  go_ret2
  exact ⟨rfl, rfl⟩
theorem refZone_est (w : World) : Calls Tryd.prog 26 #[.string ⟨#[101, 115, 116]⟩] w fun e w' => e = .returned (.tuple #[.int .i64 (-18000), .bool true]) ∧ w = w' := by
  go_enter Tryd.func26, Tryd.ntmps26
  go_wp2_with fail
  go_ret2
  exact ⟨rfl, rfl⟩
theorem refZone_cdt (w : World) : Calls Tryd.prog 26 #[.string ⟨#[99, 100, 116]⟩] w fun e w' => e = .returned (.tuple #[.int .i64 (-18000), .bool true]) ∧ w = w' := by
  go_enter Tryd.func26, Tryd.ntmps26
  go_wp2_with fail
  go_ret2
  exact ⟨rfl, rfl⟩
theorem refZone_cst (w : World) : Calls Tryd.prog 26 #[.string ⟨#[99, 115, 116]⟩] w fun e w' => e = .returned (.tuple #[.int .i64 (-21600), .bool true]) ∧ w = w' := by
  go_enter Tryd.func26, Tryd.ntmps26
  go_wp2_with fail
  go_ret2
  exact ⟨rfl, rfl⟩
theorem refZone_mdt (w : World) : Calls Tryd.prog 26 #[.string ⟨#[109, 100, 116]⟩] w fun e w' => e = .returned (.tuple #[.int .i64 (-21600), .bool true]) ∧ w = w' := by
  go_enter Tryd.func26, Tryd.ntmps26
  go_wp2_with fail
  go_ret2
  exact ⟨rfl, rfl⟩
theorem refZone_mst (w : World) : Calls Tryd.prog 26 #[.string ⟨#[109, 115, 116]⟩] w fun e w' => e = .returned (.tuple #[.int .i64 (-25200), .bool true]) ∧ w = w' := by
  go_enter Tryd.func26, Tryd.ntmps26
  go_wp2_with fail
  go_ret2
  exact ⟨rfl, rfl⟩
theorem refZone_pdt (w : World) : Calls Tryd.prog 26 #[.string ⟨#[112, 100, 116]⟩] w fun e w' => e = .returned (.tuple #[.int .i64 (-25200), .bool true]) ∧ w = w' := by
  go_enter Tryd.func26, Tryd.ntmps26
  go_wp2_with fail
  go_ret2
  exact ⟨rfl, rfl⟩
theorem refZone_pst (w : World) : Calls Tryd.prog 26 #[.string ⟨#[112, 115, 116]⟩] w fun e w' => e = .returned (.tuple #[.int .i64 (-28800), .bool true]) ∧ w = w' := by
  go_enter Tryd.func26, Tryd.ntmps26
  go_wp2_with fail
  go_ret2
  exact ⟨rfl, rfl⟩
set_option maxHeartbeats 2000000 in
theorem refZone_sign (s : ByteArray) (w : World) (hs : s.size ≤ maxLen) (hno : ∀ x ∈ zonNam, s.data.toList ≠ x.1) :
    Calls Tryd.prog 26 #[.string s] w fun e w' => e = .returned (optP (signV s.data.toList)) ∧ w = w' := by
  unfold maxLen at hs
  have z0 : (s.toList == [117, 116]) = false := lit_ne (hno ([117, 116], 0) (by decide))
  have z1 : (s.toList == [117, 116, 99]) = false := lit_ne (hno ([117, 116, 99], 0) (by decide))
  have z2 : (s.toList == [103, 109, 116]) = false := lit_ne (hno ([103, 109, 116], 0) (by decide))
  have z3 : (s.toList == [122]) = false := lit_ne (hno ([122], 0) (by decide))
  have z4 : (s.toList == [101, 100, 116]) = false := lit_ne (hno ([101, 100, 116], -4) (by decide))
  have z5 : (s.toList == [101, 115, 116]) = false := lit_ne (hno ([101, 115, 116], -5) (by decide))
  have z6 : (s.toList == [99, 100, 116]) = false := lit_ne (hno ([99, 100, 116], -5) (by decide))
  have z7 : (s.toList == [99, 115, 116]) = false := lit_ne (hno ([99, 115, 116], -6) (by decide))
  have z8 : (s.toList == [109, 100, 116]) = false := lit_ne (hno ([109, 100, 116], -6) (by decide))
  have z9 : (s.toList == [109, 115, 116]) = false := lit_ne (hno ([109, 115, 116], -7) (by decide))
  have z10 : (s.toList == [112, 100, 116]) = false := lit_ne (hno ([112, 100, 116], -7) (by decide))
  have z11 : (s.toList == [112, 115, 116]) = false := lit_ne (hno ([112, 115, 116], -8) (by decide))
  clear hno
  by_cases h5 : s.size = 5
  · have hT := sign_any s h5
    have hlt : 0 < s.size := by omega
    obtain ⟨c, hc⟩ : ∃ c, c = s[0]'hlt := ⟨_, rfl⟩
    have hc2 : s[0]'hlt = c := hc.symm
    rw [← hc] at hT
    have la := ex_len s 1 3 (by omega)
    have lb := ex_len s 3 5 (by omega)
    rw [clock_num2 _ _ la lb] at hT
    have ba := numR_bd _ la
    have bb := numR_bd _ lb
    obtain ⟨A, hA⟩ : ∃ A, A = s.extract 1 3 := ⟨_, rfl⟩
    obtain ⟨B, hB⟩ : ∃ B, B = s.extract 3 5 := ⟨_, rfl⟩
    have hA2 : s.extract 1 3 = A := hA.symm
    have hB2 : s.extract 3 5 = B := hB.symm
    rw [hA2] at hT ba la
    rw [hB2] at hT bb lb
    have ZA : Hid (A.size ≤ maxLen) := hide (by rw [toList_length] at la; unfold maxLen; omega)
    have ZB : Hid (B.size ≤ maxLen) := hide (by rw [toList_length] at lb; unfold maxLen; omega)
    obtain ⟨h, hh⟩ : ∃ h, h = numR A.data.toList 2 2 := ⟨_, rfl⟩
    obtain ⟨m, hm⟩ : ∃ m, m = numR B.data.toList 2 2 := ⟨_, rfl⟩
    rw [← hh] at hT ba
    rw [← hm] at hT bb
    have EA := hide hh.symm
    have EB := hide hm.symm
    have HT := hide hT
    clear hT la lb hA hB hh hm hc
    by_cases g : c = 43 ∨ c = 45
    · have htests : (((c.toNat : Int) != 43) = false ∧ ((c.toNat : Int) == 45) = false ∧ c = 43) ∨ (((c.toNat : Int) != 43) = true ∧ ((c.toNat : Int) != 45) = false ∧ ((c.toNat : Int) == 45) = true ∧ c = 45) := by
        rcases g with g | g
        · subst g; exact .inl ⟨by decide, by decide, rfl⟩
        · subst g; exact .inr ⟨by decide, by decide, by decide, rfl⟩
      clear g
      by_cases c0 : h < 0
      · have HV : Hid (optP (signV s.data.toList) = .tuple #[.int .i64 0, .bool false]) := hide (by
          have hn : ¬ (0 ≤ h ∧ h ≤ 23 ∧ 0 ≤ m ∧ m ≤ 59) := by omega
          rw [HT.out]
          simp only [if_neg hn]
          split
          · rfl
          · split <;> rfl)
        have t0 : decide (h < 0) = true := decide_eq_true c0
        clear c0
        rcases htests with ⟨q1, q2, -⟩ | ⟨q1, q2, q3, -⟩
        all_goals
          go_enter Tryd.func26, Tryd.ntmps26
          go_wp2_with fail
          refine (refNumber_any A 2 2 _ ZA.out (by omega) (by omega)).mono ?_
          rintro e w1 ⟨rfl, rfl⟩
          rw [EA.out]
          go_wp2_with fail
          refine (refNumber_any B 2 2 _ ZB.out (by omega) (by omega)).mono ?_
          rintro e w1 ⟨rfl, rfl⟩
          rw [EB.out]
          go_wp2_with fail
          go_ret2
          exact ⟨by rw [HV.out]; rfl, rfl⟩
      have t0 : decide (h < 0) = false := decide_eq_false c0
      by_cases c1 : 23 < h
      · have HV : Hid (optP (signV s.data.toList) = .tuple #[.int .i64 0, .bool false]) := hide (by
          have hn : ¬ (0 ≤ h ∧ h ≤ 23 ∧ 0 ≤ m ∧ m ≤ 59) := by omega
          rw [HT.out]
          simp only [if_neg hn]
          split
          · rfl
          · split <;> rfl)
        have t1 : decide (23 < h) = true := decide_eq_true c1
        clear c0 c1
        rcases htests with ⟨q1, q2, -⟩ | ⟨q1, q2, q3, -⟩
        all_goals
          go_enter Tryd.func26, Tryd.ntmps26
          go_wp2_with fail
          refine (refNumber_any A 2 2 _ ZA.out (by omega) (by omega)).mono ?_
          rintro e w1 ⟨rfl, rfl⟩
          rw [EA.out]
          go_wp2_with fail
          refine (refNumber_any B 2 2 _ ZB.out (by omega) (by omega)).mono ?_
          rintro e w1 ⟨rfl, rfl⟩
          rw [EB.out]
          go_wp2_with fail
          go_ret2
          exact ⟨by rw [HV.out]; rfl, rfl⟩
      have t1 : decide (23 < h) = false := decide_eq_false c1
      by_cases c2 : m < 0
      · have HV : Hid (optP (signV s.data.toList) = .tuple #[.int .i64 0, .bool false]) := hide (by
          have hn : ¬ (0 ≤ h ∧ h ≤ 23 ∧ 0 ≤ m ∧ m ≤ 59) := by omega
          rw [HT.out]
          simp only [if_neg hn]
          split
          · rfl
          · split <;> rfl)
        have t2 : decide (m < 0) = true := decide_eq_true c2
        clear c0 c1 c2
        rcases htests with ⟨q1, q2, -⟩ | ⟨q1, q2, q3, -⟩
        all_goals
          go_enter Tryd.func26, Tryd.ntmps26
          go_wp2_with fail
          refine (refNumber_any A 2 2 _ ZA.out (by omega) (by omega)).mono ?_
          rintro e w1 ⟨rfl, rfl⟩
          rw [EA.out]
          go_wp2_with fail
          refine (refNumber_any B 2 2 _ ZB.out (by omega) (by omega)).mono ?_
          rintro e w1 ⟨rfl, rfl⟩
          rw [EB.out]
          go_wp2_with fail
          go_ret2
          exact ⟨by rw [HV.out]; rfl, rfl⟩
      have t2 : decide (m < 0) = false := decide_eq_false c2
      by_cases c3 : 59 < m
      · have HV : Hid (optP (signV s.data.toList) = .tuple #[.int .i64 0, .bool false]) := hide (by
          have hn : ¬ (0 ≤ h ∧ h ≤ 23 ∧ 0 ≤ m ∧ m ≤ 59) := by omega
          rw [HT.out]
          simp only [if_neg hn]
          split
          · rfl
          · split <;> rfl)
        have t3 : decide (59 < m) = true := decide_eq_true c3
        clear c0 c1 c2 c3
        rcases htests with ⟨q1, q2, -⟩ | ⟨q1, q2, q3, -⟩
        all_goals
          go_enter Tryd.func26, Tryd.ntmps26
          go_wp2_with fail
          refine (refNumber_any A 2 2 _ ZA.out (by omega) (by omega)).mono ?_
          rintro e w1 ⟨rfl, rfl⟩
          rw [EA.out]
          go_wp2_with fail
          refine (refNumber_any B 2 2 _ ZB.out (by omega) (by omega)).mono ?_
          rintro e w1 ⟨rfl, rfl⟩
          rw [EB.out]
          go_wp2_with fail
          go_ret2
          exact ⟨by rw [HV.out]; rfl, rfl⟩
      have t3 : decide (59 < m) = false := decide_eq_false c3
      have g1 : 0 ≤ h := by omega
      have g2 : h ≤ 23 := by omega
      have g3 : 0 ≤ m := by omega
      have g4 : m ≤ 59 := by omega
      have HT2 : Hid (signV s.data.toList = if c = 43 then some (3600 * h + 60 * m) else if c = 45 then some (-(3600 * h + 60 * m)) else none) := hide (by
        have hn : 0 ≤ h ∧ h ≤ 23 ∧ 0 ≤ m ∧ m ≤ 59 := by omega
        rw [HT.out]
        simp only [if_pos hn]; rfl)
      clear c0 c1 c2 c3
      rcases htests with ⟨q1, q2, gc⟩ | ⟨q1, q2, q3, gc⟩
      · have HV : Hid (optP (signV s.data.toList) = .tuple #[.int .i64 (3600 * h + 60 * m), .bool true]) := hide (by rw [HT2.out, if_pos gc]; rfl)
        clear gc
        go_enter Tryd.func26, Tryd.ntmps26
        go_wp2_with fail
        refine (refNumber_any A 2 2 _ ZA.out (by omega) (by omega)).mono ?_
        rintro e w1 ⟨rfl, rfl⟩
        rw [EA.out]
        go_wp2_with fail
        refine (refNumber_any B 2 2 _ ZB.out (by omega) (by omega)).mono ?_
        rintro e w1 ⟨rfl, rfl⟩
        rw [EB.out]
        go_wp2_with fail
        go_ret2
        exact ⟨by rw [HV.out]; rfl, rfl⟩
      · have HV : Hid (optP (signV s.data.toList) = .tuple #[.int .i64 (-(3600 * h + 60 * m)), .bool true]) := hide (by rw [HT2.out, if_neg (by rw [gc]; decide), if_pos gc]; rfl)
        clear gc
        go_enter Tryd.func26, Tryd.ntmps26
        go_wp2_with fail
        refine (refNumber_any A 2 2 _ ZA.out (by omega) (by omega)).mono ?_
        rintro e w1 ⟨rfl, rfl⟩
        rw [EA.out]
        go_wp2_with fail
        refine (refNumber_any B 2 2 _ ZB.out (by omega) (by omega)).mono ?_
        rintro e w1 ⟨rfl, rfl⟩
        rw [EB.out]
        go_wp2_with fail
        go_ret2
        exact ⟨by rw [HV.out]; rfl, rfl⟩
    · have q1 : ((c.toNat : Int) != 43) = true := by rw [bne_iff_ne]; intro e; exact g (.inl (u8_eq (n := 43) (by omega) e))
      have q2 : ((c.toNat : Int) != 45) = true := by rw [bne_iff_ne]; intro e; exact g (.inr (u8_eq (n := 45) (by omega) e))
      have HV : Hid (optP (signV s.data.toList) = .tuple #[.int .i64 0, .bool false]) := hide (by
        rw [HT.out, if_neg (fun e => g (.inl e)), if_neg (fun e => g (.inr e))]; rfl)
      clear g
      go_enter Tryd.func26, Tryd.ntmps26
      go_wp2_with fail
      go_ret2
      exact ⟨by rw [HV.out]; rfl, rfl⟩
  · have HV : Hid (optP (signV s.data.toList) = .tuple #[.int .i64 0, .bool false]) := hide (by rw [sign_no _ (by rw [toList_length]; exact h5)]; rfl)
    have t5 : ((s.size : Int) != 5) = true := by rw [bne_iff_ne]; omega
    clear h5
    go_enter Tryd.func26, Tryd.ntmps26
    go_wp2_with fail
    go_ret2
    exact ⟨by rw [HV.out]; rfl, rfl⟩
theorem refZone_any (s : ByteArray) (w : World) (hs : s.size ≤ maxLen) :
    Calls Tryd.prog 26 #[.string s] w fun e w' => e = .returned (optP (zoneV s.data.toList)) ∧ w = w' := by
  by_cases e_ut : s.data.toList = [117, 116]
  · obtain rfl : s = ⟨#[117, 116]⟩ := ext_list e_ut
    exact refZone_ut w
  by_cases e_utc : s.data.toList = [117, 116, 99]
  · obtain rfl : s = ⟨#[117, 116, 99]⟩ := ext_list e_utc
    exact refZone_utc w
  by_cases e_gmt : s.data.toList = [103, 109, 116]
  · obtain rfl : s = ⟨#[103, 109, 116]⟩ := ext_list e_gmt
    exact refZone_gmt w
  by_cases e_z : s.data.toList = [122]
  · obtain rfl : s = ⟨#[122]⟩ := ext_list e_z
    exact refZone_z w
  by_cases e_edt : s.data.toList = [101, 100, 116]
  · obtain rfl : s = ⟨#[101, 100, 116]⟩ := ext_list e_edt
    exact refZone_edt w
  by_cases e_est : s.data.toList = [101, 115, 116]
  · obtain rfl : s = ⟨#[101, 115, 116]⟩ := ext_list e_est
    exact refZone_est w
  by_cases e_cdt : s.data.toList = [99, 100, 116]
  · obtain rfl : s = ⟨#[99, 100, 116]⟩ := ext_list e_cdt
    exact refZone_cdt w
  by_cases e_cst : s.data.toList = [99, 115, 116]
  · obtain rfl : s = ⟨#[99, 115, 116]⟩ := ext_list e_cst
    exact refZone_cst w
  by_cases e_mdt : s.data.toList = [109, 100, 116]
  · obtain rfl : s = ⟨#[109, 100, 116]⟩ := ext_list e_mdt
    exact refZone_mdt w
  by_cases e_mst : s.data.toList = [109, 115, 116]
  · obtain rfl : s = ⟨#[109, 115, 116]⟩ := ext_list e_mst
    exact refZone_mst w
  by_cases e_pdt : s.data.toList = [112, 100, 116]
  · obtain rfl : s = ⟨#[112, 100, 116]⟩ := ext_list e_pdt
    exact refZone_pdt w
  by_cases e_pst : s.data.toList = [112, 115, 116]
  · obtain rfl : s = ⟨#[112, 115, 116]⟩ := ext_list e_pst
    exact refZone_pst w
  have hno : ∀ x ∈ zonNam, s.data.toList ≠ x.1 := by
    intro x hx
    simp only [zonNam, List.mem_cons, List.not_mem_nil, or_false] at hx
    rcases hx with rfl | rfl | rfl | rfl | rfl | rfl | rfl | rfl | rfl | rfl | rfl | rfl <;> assumption
  refine (refZone_sign s w hs hno).mono ?_
  rintro e w1 ⟨rfl, rfl⟩
  exact ⟨by unfold zoneV; rw [look_none _ hno], rfl⟩
end Go.Proofs.YtiojfknphpnlhaaDoor
