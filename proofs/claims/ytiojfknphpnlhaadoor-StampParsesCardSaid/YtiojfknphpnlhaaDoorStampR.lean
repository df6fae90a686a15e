/- WALKS of stamp.number, readYear, isDayName, readMonth, below, readClock. No statement is proved here. -/
import Derived.Test.YtiojfknphpnlhaaDoorStampW
import Derived.Test.YtiojfknphpnlhaaDoorWithin
namespace Go.Proofs.YtiojfknphpnlhaaDoor
open Go.RowKit
set_option linter.unusedVariables false
set_option linter.unusedSimpArgs false

theorem dig_within (l : List UInt8) : withinB 48 57 l = digB l := by
  unfold withinB digB
  congr 1
  funext c
  rw [Bool.eq_iff_iff]; simp; omega
theorem empty_iff (s : ByteArray) : s.toList.isEmpty = decide (s.size = 0) := by
  rw [bytes_list, ← toList_length]
  cases s.data.toList <;> rfl
/-- a number that is read, or not -/
def optP : Option Int → Value
  | some n => .tuple #[.int .i64 n, .bool true]
  | none => .tuple #[.int .i64 0, .bool false]
def numV (l : List UInt8) : Option Int := if numB l then some (valL l) else none
set_option maxHeartbeats 400000 in
theorem number_any (s : ByteArray) (w : World) (hs : s.size ≤ maxLen) :
    Calls Tryd.prog 42 #[.string s] w fun e w' => e = .returned (optP (numV s.data.toList)) ∧ w = w' := by
  have hs' := hs
  unfold maxLen at hs
  have hl := toList_length s
  by_cases h0 : s.size = 0
  · have e1 : s.toList.isEmpty = true := by rw [empty_iff]; simp [h0]
    have HV : Hid (optP (numV s.data.toList) = .tuple #[.int .i64 0, .bool false]) := hide (by
      unfold numV numB; rw [hl, h0]; rfl)
    clear hl h0
    go_enter Tryd.func42, Tryd.ntmps42
    go_wp2_with fail
    go_ret2
    exact ⟨by rw [HV.out]; rfl, rfl⟩
  have e1 : s.toList.isEmpty = false := by rw [empty_iff]; simp [h0]
  by_cases h4 : 4 < s.size
  · have t1 : decide ((4 : Int) < (s.size : Int)) = true := decide_eq_true (by omega)
    have HV : Hid (optP (numV s.data.toList) = .tuple #[.int .i64 0, .bool false]) := hide (by
      unfold numV numB; rw [hl, show decide (s.size ≤ 4) = false from decide_eq_false (by omega)]; simp [optP])
    clear hl h0
    go_enter Tryd.func42, Tryd.ntmps42
    go_wp2_with fail
    go_ret2
    exact ⟨by rw [HV.out]; rfl, rfl⟩
  have t1 : decide ((4 : Int) < (s.size : Int)) = false := decide_eq_false (by omega)
  cases hd : digB s.data.toList
  · have HV : Hid (optP (numV s.data.toList) = .tuple #[.int .i64 0, .bool false]) := hide (by
      unfold numV numB; rw [hd]; simp [optP])
    have HW : Hid (withinB 48 57 s.data.toList = false) := hide (by rw [dig_within, hd])
    clear hl h0 h4 hd
    go_enter Tryd.func42, Tryd.ntmps42
    go_wp2_with fail
    refine (within_any s 48 57 _ hs').mono ?_
    rintro e w1 ⟨rfl, rfl⟩
    rw [HW.out]
    go_wp2_with fail
    go_ret2
    exact ⟨by rw [HV.out]; rfl, rfl⟩
  · have HV : Hid (optP (numV s.data.toList) = .tuple #[.int .i64 (valL s.data.toList), .bool true]) := hide (by
      unfold numV numB; rw [hd, hl, show decide (1 ≤ s.size) = true from decide_eq_true (by omega), show decide (s.size ≤ 4) = true from decide_eq_true (by omega)]; rfl)
    have HW : Hid (withinB 48 57 s.data.toList = true) := hide (by rw [dig_within, hd])
    have HD := hide hd
    have h5 : s.size ≤ 4 := by omega
    clear h0 h4 hd
    go_enter Tryd.func42, Tryd.ntmps42
    go_wp2_with fail
    refine (within_any s 48 57 _ hs').mono ?_
    rintro e w1 ⟨rfl, rfl⟩
    rw [HW.out]
    go_wp2_with fail
    go_loop [4, 20] (fun n i => ∃ k : Nat, k ≤ s.size ∧ i = .int .i64 k ∧ n = .int .i64 (valL (s.data.toList.take k))) (fun _ i => s.size - (intOf i).toNat)
    case atStart => exact ⟨0, Nat.zero_le _, rfl, rfl⟩
    case round =>
      obtain ⟨k, hk, rfl, rfl⟩ := hrel
      by_cases hlt : k < s.size
      · have hb := valL_bd4 (s.data.toList.take k) (by simp; omega) (digB_take _ _ HD.out)
        have hb2 := digB_take s.data.toList (k + 1) HD.out
        rw [take_snoc s k hlt, digB_snoc, Bool.and_eq_true, Bool.and_eq_true, decide_eq_true_eq, decide_eq_true_eq] at hb2
        have c1 := hb2.2.1
        have c2 := hb2.2.2
        have HS : Hid (valL (s.data.toList.take (k + 1)) = valL (s.data.toList.take k) * 10 + ((s[k].toNat : Int) - 48)) := hide (by rw [take_snoc s k hlt, valL_snoc])
        clear hb2
        go_wp2_with fail
        go_round
        case rel => exact ⟨k + 1, by omega, by go_num, by rw [HS.out]⟩
        case measure => simp [intOf]; omega
      · have e : s.data.toList.take k = s.data.toList := List.take_of_length_le (by omega)
        rw [e]
        clear e
        go_wp2_with fail
        go_ret2
        exact ⟨by rw [HV.out]; rfl, rfl⟩
theorem numV_yes {l : List UInt8} (h : numB l = true) : numV l = some (valL l) := by unfold numV; rw [h]; rfl
theorem numV_no {l : List UInt8} (h : numB l = false) : numV l = none := by unfold numV; rw [h]; rfl
theorem numB_bd {l : List UInt8} (h : numB l = true) : 1 ≤ l.length ∧ l.length ≤ 4 ∧ digB l = true ∧ 0 ≤ valL l ∧ valL l ≤ 9999 := by
  unfold numB at h
  rw [Bool.and_eq_true, Bool.and_eq_true, decide_eq_true_eq, decide_eq_true_eq] at h
  have := valL_bd4 l h.2.1 h.2.2
  exact ⟨h.1, h.2.1, h.2.2, this.1, this.2⟩
theorem number_yes (s : ByteArray) (w : World) (hs : s.size ≤ maxLen) (h : numB s.data.toList = true) :
    Calls Tryd.prog 42 #[.string s] w fun e w' => e = .returned (.tuple #[.int .i64 (valL s.data.toList), .bool true]) ∧ w = w' := by
  refine (number_any s w hs).mono ?_
  rintro e w1 ⟨rfl, rfl⟩
  rw [numV_yes h]; exact ⟨rfl, rfl⟩
theorem number_no (s : ByteArray) (w : World) (hs : s.size ≤ maxLen) (h : numB s.data.toList = false) :
    Calls Tryd.prog 42 #[.string s] w fun e w' => e = .returned (.tuple #[.int .i64 0, .bool false]) ∧ w = w' := by
  refine (number_any s w hs).mono ?_
  rintro e w1 ⟨rfl, rfl⟩
  rw [numV_no h]; exact ⟨rfl, rfl⟩
set_option maxHeartbeats 400000 in
theorem readYear_any (s : ByteArray) (w : World) (hs : s.size ≤ maxLen) :
    Calls Tryd.prog 43 #[.string s] w fun e w' => e = .returned (optP (yearV s.data.toList)) ∧ w = w' := by
  have HSZ := hide hs
  have hl := toList_length s
  unfold maxLen at hs
  cases hn : numB s.data.toList
  · have HV : Hid (optP (yearV s.data.toList) = .tuple #[.int .i64 0, .bool false]) := hide (by unfold yearV; rw [hn]; rfl)
    have HN := hide hn
    clear hn hl
    go_enter Tryd.func43, Tryd.ntmps43
    go_wp2_with fail
    refine (number_no s _ HSZ.out HN.out).mono ?_
    rintro e w1 ⟨rfl, rfl⟩
    go_wp2_with fail
    go_ret2
    exact ⟨by rw [HV.out]; rfl, rfl⟩
  · obtain ⟨b1, b2, b3, b4, b5⟩ := numB_bd hn
    rw [hl] at b1 b2
    have HN := hide hn
    have HY : Hid (yearV s.data.toList = if s.size = 4 then some (valL s.data.toList) else if s.size = 2 then (if valL s.data.toList < 50 then some (2000 + valL s.data.toList) else some (1900 + valL s.data.toList)) else none) := hide (by
      unfold yearV; rw [hn, if_pos rfl, hl])
    clear hn hl b3
    by_cases h4 : s.size = 4
    · have HV : Hid (optP (yearV s.data.toList) = .tuple #[.int .i64 (valL s.data.toList), .bool true]) := hide (by rw [HY.out, if_pos h4]; rfl)
      go_enter Tryd.func43, Tryd.ntmps43
      go_wp2_with fail
      refine (number_yes s _ HSZ.out HN.out).mono ?_
      rintro e w1 ⟨rfl, rfl⟩
      go_wp2_with fail
      go_ret2
      exact ⟨by rw [HV.out]; rfl, rfl⟩
    have t4 : ((s.size : Int) == 4) = false := beq_eq_false_iff_ne.2 (by omega)
    by_cases h2 : s.size = 2
    · have t2 : ((s.size : Int) != 2) = false := by rw [bne_eq_false_iff_eq]; omega
      by_cases h5 : valL s.data.toList < 50
      · have HV : Hid (optP (yearV s.data.toList) = .tuple #[.int .i64 (2000 + valL s.data.toList), .bool true]) := hide (by rw [HY.out, if_neg h4, if_pos h2, if_pos h5]; rfl)
        clear h4 h2
        go_enter Tryd.func43, Tryd.ntmps43
        go_wp2_with fail
        refine (number_yes s _ HSZ.out HN.out).mono ?_
        rintro e w1 ⟨rfl, rfl⟩
        go_wp2_with fail
        go_ret2
        exact ⟨by rw [HV.out]; rfl, rfl⟩
      · have HV : Hid (optP (yearV s.data.toList) = .tuple #[.int .i64 (1900 + valL s.data.toList), .bool true]) := hide (by rw [HY.out, if_neg h4, if_pos h2, if_neg h5]; rfl)
        clear h4 h2
        go_enter Tryd.func43, Tryd.ntmps43
        go_wp2_with fail
        refine (number_yes s _ HSZ.out HN.out).mono ?_
        rintro e w1 ⟨rfl, rfl⟩
        go_wp2_with fail
        go_ret2
        exact ⟨by rw [HV.out]; rfl, rfl⟩
    · have t2 : ((s.size : Int) != 2) = true := by rw [bne_iff_ne]; omega
      have HV : Hid (optP (yearV s.data.toList) = .tuple #[.int .i64 0, .bool false]) := hide (by rw [HY.out, if_neg h4, if_neg h2]; rfl)
      clear h4 h2
      go_enter Tryd.func43, Tryd.ntmps43
      go_wp2_with fail
      refine (number_yes s _ HSZ.out HN.out).mono ?_
      rintro e w1 ⟨rfl, rfl⟩
      go_wp2_with fail
      go_ret2
      exact ⟨by rw [HV.out]; rfl, rfl⟩
def belowO (l : List UInt8) (k : Int) : Option Int := if belowB l k then some (valL l) else none
theorem belowB_iff (l : List UInt8) (k : Int) : belowB l k = (numB l && (decide (l.length = 2) && decide (valL l < k))) := by
  unfold belowB numB
  by_cases h : l.length = 2
  · rw [h]; simp
  · simp [h]
set_option maxHeartbeats 400000 in
theorem below_any (s : ByteArray) (k : Int) (w : World) (hs : s.size ≤ maxLen) :
    Calls Tryd.prog 58 #[.string s, .int .i64 k] w fun e w' => e = .returned (optP (belowO s.data.toList k)) ∧ w = w' := by
  have HSZ := hide hs
  have hl := toList_length s
  unfold maxLen at hs
  cases hn : numB s.data.toList
  · have HV : Hid (optP (belowO s.data.toList k) = .tuple #[.int .i64 0, .bool false]) := hide (by unfold belowO; rw [belowB_iff, hn]; rfl)
    have HN := hide hn
    clear hn hl
    go_enter Tryd.func58, Tryd.ntmps58
    go_wp2_with fail
    refine (number_no s _ HSZ.out HN.out).mono ?_
    rintro e w1 ⟨rfl, rfl⟩
    go_wp2_with fail
    go_ret2
    exact ⟨by rw [HV.out]; rfl, rfl⟩
  · have HN := hide hn
    have HY : Hid (belowO s.data.toList k = if (decide (s.size = 2) && decide (valL s.data.toList < k)) = true then some (valL s.data.toList) else none) := hide (by
      unfold belowO; rw [belowB_iff, hn, hl, Bool.true_and])
    clear hn hl
    by_cases h2 : s.size = 2
    · have t2 : ((s.size : Int) != 2) = false := by rw [bne_eq_false_iff_eq]; omega
      by_cases h5 : valL s.data.toList < k
      · have HV : Hid (optP (belowO s.data.toList k) = .tuple #[.int .i64 (valL s.data.toList), .bool true]) := hide (by rw [HY.out, if_pos (by simp [h2, h5])]; rfl)
        have t3 : decide (k ≤ valL s.data.toList) = false := decide_eq_false (by omega)
        clear h2 h5
        go_enter Tryd.func58, Tryd.ntmps58
        go_wp2_with fail
        refine (number_yes s _ HSZ.out HN.out).mono ?_
        rintro e w1 ⟨rfl, rfl⟩
        go_wp2_with fail
        go_ret2
        exact ⟨by rw [HV.out]; rfl, rfl⟩
      · have HV : Hid (optP (belowO s.data.toList k) = .tuple #[.int .i64 0, .bool false]) := hide (by rw [HY.out, if_neg (by simp [h2, h5])]; rfl)
        have t3 : decide (k ≤ valL s.data.toList) = true := decide_eq_true (by omega)
        clear h2 h5
        go_enter Tryd.func58, Tryd.ntmps58
        go_wp2_with fail
        refine (number_yes s _ HSZ.out HN.out).mono ?_
        rintro e w1 ⟨rfl, rfl⟩
        go_wp2_with fail
        go_ret2
        exact ⟨by rw [HV.out]; rfl, rfl⟩
    · have t2 : ((s.size : Int) != 2) = true := by rw [bne_iff_ne]; omega
      have HV : Hid (optP (belowO s.data.toList k) = .tuple #[.int .i64 0, .bool false]) := hide (by rw [HY.out, if_neg (by simp [h2])]; rfl)
      clear h2
      go_enter Tryd.func58, Tryd.ntmps58
      go_wp2_with fail
      refine (number_yes s _ HSZ.out HN.out).mono ?_
      rintro e w1 ⟨rfl, rfl⟩
      go_wp2_with fail
      go_ret2
      exact ⟨by rw [HV.out]; rfl, rfl⟩
theorem belowB_val {l : List UInt8} {k : Int} (h : belowB l k = true) : 0 ≤ valL l ∧ valL l ≤ 99 := by
  unfold belowB at h
  rw [Bool.and_eq_true, Bool.and_eq_true, decide_eq_true_eq] at h
  have := valL_bd 2 l h.2.1 h.1
  omega
theorem below_yes (s : ByteArray) (k : Int) (w : World) (hs : s.size ≤ maxLen) (h : belowB s.data.toList k = true) :
    Calls Tryd.prog 58 #[.string s, .int .i64 k] w fun e w' => e = .returned (.tuple #[.int .i64 (valL s.data.toList), .bool true]) ∧ w = w' := by
  refine (below_any s k w hs).mono ?_
  rintro e w1 ⟨rfl, rfl⟩
  unfold belowO; rw [h]; exact ⟨rfl, rfl⟩
theorem below_no (s : ByteArray) (k : Int) (w : World) (hs : s.size ≤ maxLen) (h : belowB s.data.toList k = false) :
    Calls Tryd.prog 58 #[.string s, .int .i64 k] w fun e w' => e = .returned (.tuple #[.int .i64 0, .bool false]) ∧ w = w' := by
  refine (below_any s k w hs).mono ?_
  rintro e w1 ⟨rfl, rfl⟩
  unfold belowO; rw [h]; exact ⟨rfl, rfl⟩
set_option maxHeartbeats 1000000 in
theorem readClock_any (a b c : ByteArray) (w : World) (ha : a.size ≤ maxLen) (hb : b.size ≤ maxLen) (hc : c.size ≤ maxLen) :
    Calls Tryd.prog 46 #[.string a, .string b, .string c] w fun e w' => e = .returned (optP (clockV a.data.toList b.data.toList c.data.toList)) ∧ w = w' := by
  have HA := hide ha
  have HB := hide hb
  have HC := hide hc
  clear ha hb hc
  cases h1 : belowB a.data.toList 24 <;> cases h2 : belowB b.data.toList 60 <;> cases h3 : belowB c.data.toList 60
  case true.true.true =>
    have HV : Hid (optP (clockV a.data.toList b.data.toList c.data.toList) = .tuple #[.int .i64 (valL a.data.toList * 3600 + valL b.data.toList * 60 + valL c.data.toList), .bool true]) := hide (by
      unfold clockV clockB; rw [h1, h2, h3]; rfl)
    have b1 := belowB_val h1
    have b2 := belowB_val h2
    have b3 := belowB_val h3
    have H1 := hide h1
    have H2 := hide h2
    have H3 := hide h3
    clear h1 h2 h3
    go_enter Tryd.func46, Tryd.ntmps46
    go_wp2_with fail
    refine (below_yes a 24 _ HA.out H1.out).mono ?_
    rintro e w1 ⟨rfl, rfl⟩
    go_wp2_with fail
    refine (below_yes b 60 _ HB.out H2.out).mono ?_
    rintro e w1 ⟨rfl, rfl⟩
    go_wp2_with fail
    refine (below_yes c 60 _ HC.out H3.out).mono ?_
    rintro e w1 ⟨rfl, rfl⟩
    go_wp2_with fail
    go_ret2
    exact ⟨by rw [HV.out]; rfl, rfl⟩
  all_goals
    have HV : Hid (optP (clockV a.data.toList b.data.toList c.data.toList) = .tuple #[.int .i64 0, .bool false]) := hide (by
      unfold clockV clockB; rw [h1, h2, h3]; rfl)
    have H1 := hide h1
    have H2 := hide h2
    have H3 := hide h3
    clear h1 h2 h3
    go_enter Tryd.func46, Tryd.ntmps46
    go_wp2_with fail
    first | refine (below_yes a 24 _ HA.out H1.out).mono ?_ | refine (below_no a 24 _ HA.out H1.out).mono ?_
    rintro e w1 ⟨rfl, rfl⟩
    go_wp2_with fail
    first | refine (below_yes b 60 _ HB.out H2.out).mono ?_ | refine (below_no b 60 _ HB.out H2.out).mono ?_
    rintro e w1 ⟨rfl, rfl⟩
    go_wp2_with fail
    first | refine (below_yes c 60 _ HC.out H3.out).mono ?_ | refine (below_no c 60 _ HC.out H3.out).mono ?_
    rintro e w1 ⟨rfl, rfl⟩
    go_wp2_with fail
    go_ret2
    exact ⟨by rw [HV.out]; rfl, rfl⟩
end Go.Proofs.YtiojfknphpnlhaaDoor
