/- WALKS of stamp.isDayName, readMonth, readDay. No statement is proved here. -/
import Derived.Test.YtiojfknphpnlhaaDoorStampR
import Derived.Test.YtiojfknphpnlhaaDoorLow
namespace Go.Proofs.YtiojfknphpnlhaaDoor
set_option maxRecDepth 100000
open Go.RowKit
set_option linter.unusedVariables false
set_option linter.unusedSimpArgs false

theorem dayLow (k : Nat) (h : k < 7) : lowL (dayTab.getD k []) = dayNam.getD k [] := by
  obtain rfl | rfl | rfl | rfl | rfl | rfl | rfl : k = 0 ∨ k = 1 ∨ k = 2 ∨ k = 3 ∨ k = 4 ∨ k = 5 ∨ k = 6 := by omega
  all_goals decide +kernel
theorem monLow (k : Nat) (h : k < 12) : lowL (monTab.getD k []) = monNam.getD k [] := by
  obtain rfl | rfl | rfl | rfl | rfl | rfl | rfl | rfl | rfl | rfl | rfl | rfl : k = 0 ∨ k = 1 ∨ k = 2 ∨ k = 3 ∨ k = 4 ∨ k = 5 ∨ k = 6 ∨ k = 7 ∨ k = 8 ∨ k = 9 ∨ k = 10 ∨ k = 11 := by omega
  all_goals decide +kernel
theorem idx7 (nm : Nat → ByteArray) (k : Nat) (h : k < 7) (w : World) : (Instr.index 53 (Value.agg #[.string (nm 0), .string (nm 1), .string (nm 2), .string (nm 3), .string (nm 4), .string (nm 5), .string (nm 6)]) (.int .i64 k)).run Tryd.prog w = .ok (.string (nm k)) w := by
  obtain rfl | rfl | rfl | rfl | rfl | rfl | rfl : k = 0 ∨ k = 1 ∨ k = 2 ∨ k = 3 ∨ k = 4 ∨ k = 5 ∨ k = 6 := by omega
  all_goals rfl
theorem idx12 (nm : Nat → ByteArray) (k : Nat) (h : k < 12) (w : World) : (Instr.index 61 (Value.agg #[.string (nm 0), .string (nm 1), .string (nm 2), .string (nm 3), .string (nm 4), .string (nm 5), .string (nm 6), .string (nm 7), .string (nm 8), .string (nm 9), .string (nm 10), .string (nm 11)]) (.int .i64 k)).run Tryd.prog w = .ok (.string (nm k)) w := by
  obtain rfl | rfl | rfl | rfl | rfl | rfl | rfl | rfl | rfl | rfl | rfl | rfl : k = 0 ∨ k = 1 ∨ k = 2 ∨ k = 3 ∨ k = 4 ∨ k = 5 ∨ k = 6 ∨ k = 7 ∨ k = 8 ∨ k = 9 ∨ k = 10 ∨ k = 11 := by omega
  all_goals rfl
theorem str_beq {a : ByteArray} {l : List UInt8} (s : ByteArray) (h : a = str l) : (a.toList == s.toList) = decide (l = s.data.toList) := by
  rw [h, str_list, bytes_list, Bool.eq_iff_iff, beq_iff_eq, decide_eq_true_eq]
set_option maxHeartbeats 400000 in
theorem isDayName_any (s : ByteArray) (w : World) (hE : EnvS w) :
    Calls Tryd.prog 18 #[.string s] w fun e w' => e = .returned (.bool (isDayN s.data.toList)) ∧ Below w.heap.size w w' := by
  obtain ⟨nm, hnm⟩ : ∃ nm : Nat → ByteArray, ∀ k, nm k = str (dayTab.getD k []) := ⟨_, fun _ => rfl⟩
  have c0 := hE.day 0 (by decide)
  have c1 := hE.day 1 (by decide)
  have c2 := hE.day 2 (by decide)
  have c3 := hE.day 3 (by decide)
  have c4 := hE.day 4 (by decide)
  have c5 := hE.day 5 (by decide)
  have c6 := hE.day 6 (by decide)
  rw [← hnm] at c0 c1 c2 c3 c4 c5 c6
  have HNM := hide hnm
  have HE := hide hE
  clear hnm hE
  go_enter Tryd.func18, Tryd.ntmps18
  go_wp2_with fail
  clear c0 c1 c2 c3 c4 c5 c6
  go_loopw [6] (fun i wr => ∃ k : Nat, k ≤ 7 ∧ i = .int .i64 k ∧ Hid (Below w.heap.size w wr) ∧ Hid (findV s.data.toList (dayNam.drop k) k = findV s.data.toList dayNam 0)) (fun i _ => 7 - (intOf i).toNat)
  case atStart => exact ⟨0, by omega, rfl, hide (Below.refl _ _), hide rfl⟩
  case round =>
    obtain ⟨k, hk, rfl, HB, HF⟩ := hrel
    by_cases hlt : k < 7
    · have hix := idx7 nm k hlt wr
      have hst := findV_step s.data.toList dayNam k hlt
      have hl := lower_any (nm k) wr (by rw [HNM.out, dayTab_size k hlt]; decide)
      obtain ⟨L, hL⟩ : ∃ L, L = str (dayNam.getD k []) := ⟨_, rfl⟩
      rw [show str (lowL (nm k).data.toList) = L by rw [HNM.out, str_toList, dayLow k hlt, hL]] at hl
      have hbe := str_beq s hL
      rw [HF.out] at hst
      have HL := hide hl
      clear hl hL
      by_cases he : dayNam.getD k [] = s.data.toList
      · rw [if_pos he] at hst
        have HR : Hid (isDayN s.data.toList = true) := hide (by unfold isDayN; rw [hst]; exact decide_eq_true (by omega))
        rw [decide_eq_true he] at hbe
        clear hst he
        go_wp2_with fail
        refine HL.out.mono ?_
        rintro e w1 ⟨rfl, hb1⟩
        have HB1 := hide (HB.out.trans (hb1.mono HB.out.size))
        clear hb1 hix
        go_wp2_with fail
        go_ret
        exact ⟨ret_bool HR.out.symm, HB1.out⟩
      · rw [if_neg he] at hst
        have HR := hide hst.symm
        rw [decide_eq_false he] at hbe
        clear hst he
        go_wp2_with fail
        refine HL.out.mono ?_
        rintro e w1 ⟨rfl, hb1⟩
        have HB1 := hide (HB.out.trans (hb1.mono HB.out.size))
        clear hb1 hix
        go_wp2_with fail
        go_roundw
        case rel => exact ⟨k + 1, by omega, by go_num, HB1, HR⟩
        case measure => simp [intOf]; omega
    · have HR : Hid (isDayN s.data.toList = false) := hide (by
        unfold isDayN; rw [← HF.out, findV_end s.data.toList dayNam k (by show 7 ≤ k; omega)]; rfl)
      go_wp2_with fail
      go_ret
      exact ⟨ret_bool HR.out.symm, HB.out⟩
set_option maxHeartbeats 400000 in
theorem readMonth_any (s : ByteArray) (w : World) (hE : EnvS w) :
    Calls Tryd.prog 44 #[.string s] w fun e w' => e = .returned (.int .i64 (monV s.data.toList)) ∧ Below w.heap.size w w' := by
  obtain ⟨nm, hnm⟩ : ∃ nm : Nat → ByteArray, ∀ k, nm k = str (monTab.getD k []) := ⟨_, fun _ => rfl⟩
  have c0 := hE.mon 0 (by decide)
  have c1 := hE.mon 1 (by decide)
  have c2 := hE.mon 2 (by decide)
  have c3 := hE.mon 3 (by decide)
  have c4 := hE.mon 4 (by decide)
  have c5 := hE.mon 5 (by decide)
  have c6 := hE.mon 6 (by decide)
  have c7 := hE.mon 7 (by decide)
  have c8 := hE.mon 8 (by decide)
  have c9 := hE.mon 9 (by decide)
  have c10 := hE.mon 10 (by decide)
  have c11 := hE.mon 11 (by decide)
  rw [← hnm] at c0 c1 c2 c3 c4 c5 c6 c7 c8 c9 c10 c11
  have HNM := hide hnm
  have HE := hide hE
  clear hnm hE
  go_enter Tryd.func44, Tryd.ntmps44
  go_wp2_with fail
  clear c0 c1 c2 c3 c4 c5 c6 c7 c8 c9 c10 c11
  go_loopw [6] (fun i wr => ∃ k : Nat, k ≤ 12 ∧ i = .int .i64 k ∧ Hid (Below w.heap.size w wr) ∧ Hid (findV s.data.toList (monNam.drop k) k = monV s.data.toList)) (fun i _ => 12 - (intOf i).toNat)
  case atStart => exact ⟨0, by omega, rfl, hide (Below.refl _ _), hide rfl⟩
  case round =>
    obtain ⟨k, hk, rfl, HB, HF⟩ := hrel
    by_cases hlt : k < 12
    · have hix := idx12 nm k hlt wr
      have hst := findV_step s.data.toList monNam k hlt
      have hl := lower_any (nm k) wr (by rw [HNM.out, monTab_size k hlt]; decide)
      obtain ⟨L, hL⟩ : ∃ L, L = str (monNam.getD k []) := ⟨_, rfl⟩
      rw [show str (lowL (nm k).data.toList) = L by rw [HNM.out, str_toList, monLow k hlt, hL]] at hl
      have hbe := str_beq s hL
      rw [HF.out] at hst
      have HL := hide hl
      clear hl hL
      by_cases he : monNam.getD k [] = s.data.toList
      · rw [if_pos he] at hst
        have HR := hide hst.symm
        rw [decide_eq_true he] at hbe
        clear hst he
        go_wp2_with fail
        refine HL.out.mono ?_
        rintro e w1 ⟨rfl, hb1⟩
        have HB1 := hide (HB.out.trans (hb1.mono HB.out.size))
        clear hb1 hix
        go_wp2_with fail
        go_ret
        exact ⟨ret_int HR.out, HB1.out⟩
      · rw [if_neg he] at hst
        have HR := hide hst.symm
        rw [decide_eq_false he] at hbe
        clear hst he
        go_wp2_with fail
        refine HL.out.mono ?_
        rintro e w1 ⟨rfl, hb1⟩
        have HB1 := hide (HB.out.trans (hb1.mono HB.out.size))
        clear hb1 hix
        go_wp2_with fail
        go_roundw
        case rel => exact ⟨k + 1, by omega, by go_num, HB1, HR⟩
        case measure => simp [intOf]; omega
    · have HR : Hid (monV s.data.toList = 0) := hide (by
        rw [← HF.out, findV_end s.data.toList monNam k (by show 12 ≤ k; omega)])
      go_wp2_with fail
      go_ret
      exact ⟨ret_int HR.out.symm, HB.out⟩
theorem readYear_yes (s : ByteArray) (y : Int) (w : World) (hs : s.size ≤ maxLen) (h : yearV s.data.toList = some y) :
    Calls Tryd.prog 43 #[.string s] w fun e w' => e = .returned (.tuple #[.int .i64 y, .bool true]) ∧ w = w' := by
  refine (readYear_any s w hs).mono ?_
  rintro e w1 ⟨rfl, rfl⟩
  rw [h]; exact ⟨rfl, rfl⟩
theorem readYear_no (s : ByteArray) (w : World) (hs : s.size ≤ maxLen) (h : yearV s.data.toList = none) :
    Calls Tryd.prog 43 #[.string s] w fun e w' => e = .returned (.tuple #[.int .i64 0, .bool false]) ∧ w = w' := by
  refine (readYear_any s w hs).mono ?_
  rintro e w1 ⟨rfl, rfl⟩
  rw [h]; exact ⟨rfl, rfl⟩
set_option maxHeartbeats 1000000 in
theorem readDay_any (a b c : ByteArray) (w : World) (hE : EnvS w) (ha : a.size ≤ maxLen) (hc : c.size ≤ maxLen) :
    Calls Tryd.prog 19 #[.string a, .string b, .string c] w fun e w' => e = .returned (optP (dayV a.data.toList b.data.toList c.data.toList)) ∧ Below w.heap.size w w' := by
  have HE := hide hE
  have HA := hide ha
  have HC := hide hc
  have hl := toList_length a
  unfold maxLen at ha
  clear hE hc
  by_cases h12 : a.size = 1 ∨ a.size = 2
  · have hshort : shortB a.data.toList = numB a.data.toList := by
      unfold shortB; rw [hl, show decide (a.size ≤ 2) = true from decide_eq_true (by omega), Bool.and_true]
    have HSH := hide hshort
    clear hl hshort
    have htest : ((((a.size : Int) != 1) = false)) ∨ (((a.size : Int) != 1) = true ∧ ((a.size : Int) != 2) = false) := by
      rcases h12 with h | h
      · exact .inl (by rw [bne_eq_false_iff_eq]; omega)
      · exact .inr ⟨by rw [bne_iff_ne]; omega, by rw [bne_eq_false_iff_eq]; omega⟩
    clear h12
    cases hn : numB a.data.toList
    · have HV : Hid (optP (dayV a.data.toList b.data.toList c.data.toList) = .tuple #[.int .i64 0, .bool false]) := hide (by unfold dayV; rw [HSH.out, hn]; rfl)
      have HN := hide hn
      clear hn
      rcases htest with t1 | ⟨t1, t2⟩ <;> cases hy : yearV c.data.toList
      all_goals
        have HY := hide hy
        clear hy
        go_enter Tryd.func19, Tryd.ntmps19
        go_wp2_with fail
        refine (number_no a _ HA.out HN.out).mono ?_
        rintro e w1 ⟨rfl, rfl⟩
        go_wp2_with fail
        first | refine (readYear_no c _ HC.out HY.out).mono ?_ | refine (readYear_yes c _ _ HC.out HY.out).mono ?_
        rintro e w1 ⟨rfl, rfl⟩
        go_wp2_with fail
        go_ret2
        exact ⟨by rw [HV.out]; rfl, Below.refl _ _⟩
    · obtain ⟨b1, b2, b3, b4, b5⟩ := numB_bd hn
      have HN := hide hn
      clear b1 b2 b3
      cases hy : yearV c.data.toList with
      | none =>
        have HV : Hid (optP (dayV a.data.toList b.data.toList c.data.toList) = .tuple #[.int .i64 0, .bool false]) := hide (by unfold dayV; rw [HSH.out, hn, hy]; rfl)
        have HY := hide hy
        clear hy hn
        rcases htest with t1 | ⟨t1, t2⟩
        all_goals
          go_enter Tryd.func19, Tryd.ntmps19
          go_wp2_with fail
          refine (number_yes a _ HA.out HN.out).mono ?_
          rintro e w1 ⟨rfl, rfl⟩
          go_wp2_with fail
          refine (readYear_no c _ HC.out HY.out).mono ?_
          rintro e w1 ⟨rfl, rfl⟩
          go_wp2_with fail
          go_ret2
          exact ⟨by rw [HV.out]; rfl, Below.refl _ _⟩
      | some y =>
        cases hm : mayB y (monV b.data.toList) (valL a.data.toList)
        · have HV : Hid (optP (dayV a.data.toList b.data.toList c.data.toList) = .tuple #[.int .i64 0, .bool false]) := hide (by unfold dayV; rw [HSH.out, hn, hy]; simp [hm, optP])
          have HDV : Hid (daysV y (monV b.data.toList) (valL a.data.toList) = .tuple #[.int .i64 0, .int .i64 1]) := hide (by unfold daysV; rw [hm, if_neg (by simp)])
          have HY := hide hy
          clear hy hn hm
          rcases htest with t1 | ⟨t1, t2⟩
          all_goals
            go_enter Tryd.func19, Tryd.ntmps19
            go_wp2_with fail
            refine (number_yes a _ HA.out HN.out).mono ?_
            rintro e w1 ⟨rfl, rfl⟩
            go_wp2_with fail
            refine (readYear_yes c _ _ HC.out HY.out).mono ?_
            rintro e w1 ⟨rfl, rfl⟩
            go_wp2_with fail
            refine (readMonth_any b _ HE.out).mono ?_
            rintro e w1 ⟨rfl, hb1⟩
            have HB := hide hb1
            clear hb1
            go_wp2_with fail
            refine (days_any _ _ _ _ (HE.out.kept HB.out)).mono ?_
            rintro e w2 ⟨rfl, hw⟩
            subst hw
            rw [HDV.out]
            go_wp2_with fail
            go_ret2
            exact ⟨by rw [HV.out]; rfl, HB.out⟩
        · have HV : Hid (optP (dayV a.data.toList b.data.toList c.data.toList) = .tuple #[.int .i64 (daysZ y (monV b.data.toList) (valL a.data.toList)), .bool true]) := hide (by unfold dayV; rw [HSH.out, hn, hy]; simp [hm, optP])
          have HDV : Hid (daysV y (monV b.data.toList) (valL a.data.toList) = .tuple #[.int .i64 (daysZ y (monV b.data.toList) (valL a.data.toList)), .int .i64 0]) := hide (by unfold daysV; rw [hm, if_pos rfl])
          have HY := hide hy
          clear hy hn hm
          rcases htest with t1 | ⟨t1, t2⟩
          all_goals
            go_enter Tryd.func19, Tryd.ntmps19
            go_wp2_with fail
            refine (number_yes a _ HA.out HN.out).mono ?_
            rintro e w1 ⟨rfl, rfl⟩
            go_wp2_with fail
            refine (readYear_yes c _ _ HC.out HY.out).mono ?_
            rintro e w1 ⟨rfl, rfl⟩
            go_wp2_with fail
            refine (readMonth_any b _ HE.out).mono ?_
            rintro e w1 ⟨rfl, hb1⟩
            have HB := hide hb1
            clear hb1
            go_wp2_with fail
            refine (days_any _ _ _ _ (HE.out.kept HB.out)).mono ?_
            rintro e w2 ⟨rfl, hw⟩
            subst hw
            rw [HDV.out]
            go_wp2_with fail
            go_ret2
            exact ⟨by rw [HV.out]; rfl, HB.out⟩
  · have HV : Hid (optP (dayV a.data.toList b.data.toList c.data.toList) = .tuple #[.int .i64 0, .bool false]) := hide (by
      unfold dayV
      rw [show shortB a.data.toList = false by
        unfold shortB numB; rw [hl]
        rcases Nat.eq_zero_or_pos a.size with h | h
        · simp [h]
        · rw [show decide (a.size ≤ 2) = false from decide_eq_false (by omega), Bool.and_false]]
      rfl)
    have t1 : ((a.size : Int) != 1) = true := by rw [bne_iff_ne]; omega
    have t2 : ((a.size : Int) != 2) = true := by rw [bne_iff_ne]; omega
    clear h12 hl
    go_enter Tryd.func19, Tryd.ntmps19
    go_wp2_with fail
    go_ret2
    exact ⟨by rw [HV.out]; rfl, Below.refl _ _⟩
end Go.Proofs.YtiojfknphpnlhaaDoor
