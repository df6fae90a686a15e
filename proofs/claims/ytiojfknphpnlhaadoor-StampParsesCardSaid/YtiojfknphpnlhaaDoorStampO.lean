/- WALK of the reference's clock (stamp). No statement is proved here. -/
import Derived.Test.YtiojfknphpnlhaaDoorStampN
namespace Go.Proofs.YtiojfknphpnlhaaDoor
set_option maxRecDepth 100000
open Go.RowKit
set_option linter.unusedVariables false
set_option linter.unusedSimpArgs false

def clkR (l : List UInt8) : Int := match timeV l with | some v => v | none => -1
theorem numR_two (l : List UInt8) (h : l.length = 2) : numR l 2 2 = if digB l = true then valL l else -1 := by unfold numR; rw [h]; rfl
theorem numR_bd (l : List UInt8) (h : l.length = 2) : -1 ≤ numR l 2 2 ∧ numR l 2 2 ≤ 99 := by
  rw [numR_two l h]
  split
  · rename_i hd
    have := valL_bd 2 l h hd
    omega
  · omega
theorem below_num (l : List UInt8) (k : Int) (h : l.length = 2) (hk : 0 ≤ k) : belowB l k = decide (0 ≤ numR l 2 2 ∧ numR l 2 2 < k) := by
  unfold belowB
  rw [numR_two l h, decide_eq_true h, Bool.true_and]
  cases hd : digB l
  · simp
  · have := valL_bd 2 l h hd
    simp; omega
theorem clock_num (a b c : List UInt8) (ha : a.length = 2) (hb : b.length = 2) (hc : c.length = 2) :
    clockV a b c = if 0 ≤ numR a 2 2 ∧ numR a 2 2 ≤ 23 ∧ 0 ≤ numR b 2 2 ∧ numR b 2 2 ≤ 59 ∧ 0 ≤ numR c 2 2 ∧ numR c 2 2 ≤ 59 then some (3600 * numR a 2 2 + 60 * numR b 2 2 + numR c 2 2) else none := by
  unfold clockV clockB clockZ
  rw [below_num a 24 ha (by omega), below_num b 60 hb (by omega), below_num c 60 hc (by omega)]
  by_cases h : 0 ≤ numR a 2 2 ∧ numR a 2 2 ≤ 23 ∧ 0 ≤ numR b 2 2 ∧ numR b 2 2 ≤ 59 ∧ 0 ≤ numR c 2 2 ∧ numR c 2 2 ≤ 59
  · have vv : ∀ l : List UInt8, l.length = 2 → 0 ≤ numR l 2 2 → valL l = numR l 2 2 := fun l hl h0 => by
      rw [numR_two l hl] at h0 ⊢
      split at h0
      · rename_i hd; rw [if_pos hd]
      · omega
    rw [if_pos h, if_pos (by simp only [Bool.and_eq_true, decide_eq_true_eq]; omega), vv a ha h.1, vv b hb h.2.2.1, vv c hc h.2.2.2.2.1]
    congr 1; omega
  · rw [if_neg h, if_neg (by simp only [Bool.and_eq_true, decide_eq_true_eq]; omega)]
theorem num_00 : numR [48, 48] 2 2 = 0 := by decide +kernel
theorem clock_num2 (a b : List UInt8) (ha : a.length = 2) (hb : b.length = 2) :
    clockV a b [48, 48] = if 0 ≤ numR a 2 2 ∧ numR a 2 2 ≤ 23 ∧ 0 ≤ numR b 2 2 ∧ numR b 2 2 ≤ 59 then some (3600 * numR a 2 2 + 60 * numR b 2 2) else none := by
  rw [clock_num a b [48, 48] ha hb rfl, num_00]
  by_cases h : 0 ≤ numR a 2 2 ∧ numR a 2 2 ≤ 23 ∧ 0 ≤ numR b 2 2 ∧ numR b 2 2 ≤ 59
  · rw [if_pos h, if_pos (by omega), Int.add_zero]
  · rw [if_neg h, if_neg (by omega)]
theorem time5 (s : ByteArray) (h : s.size = 5) : timeV s.data.toList = if s[2]'(by omega) = 58 then clockV (s.extract 0 2).data.toList (s.extract 3 5).data.toList [48, 48] else none := by
  obtain ⟨⟨l⟩⟩ := s
  match l, h with
  | [a, b, c, d, e], _ => rfl
theorem time8 (s : ByteArray) (h : s.size = 8) : timeV s.data.toList = if s[2]'(by omega) = 58 ∧ s[5]'(by omega) = 58 then clockV (s.extract 0 2).data.toList (s.extract 3 5).data.toList (s.extract 6 8).data.toList else none := by
  obtain ⟨⟨l⟩⟩ := s
  match l, h with
  | [a, b, c, d, e, f, g, i], _ => rfl
theorem time_len (l : List UInt8) (h5 : l.length ≠ 5) (h8 : l.length ≠ 8) : timeV l = none := by
  unfold timeV
  split
  · exact absurd rfl h5
  · exact absurd rfl h8
  · rfl
theorem ex_len (s : ByteArray) (a b : Nat) (h : b ≤ s.size) : (s.extract a b).data.toList.length = b - a := by rw [toList_length, ByteArray.size_extract]; omega
set_option maxHeartbeats 2000000 in
theorem refClock_any (s : ByteArray) (w : World) (hs : s.size ≤ maxLen) :
    Calls Tryd.prog 25 #[.string s] w fun e w' => e = .returned (.int .i64 (clkR s.data.toList)) ∧ w = w' := by
  unfold maxLen at hs
  by_cases h5 : s.size = 5
  · have hT := time5 s h5
    have hlt : 2 < s.size := by omega
    obtain ⟨c, hc⟩ : ∃ c, c = s[2]'hlt := ⟨_, rfl⟩
    have hc2 : s[2]'hlt = c := hc.symm
    rw [← hc] at hT
    by_cases g : c = 58
    · have q1 : ((c.toNat : Int) != 58) = false := by rw [bne_eq_false_iff_eq, g]; rfl
      rw [if_pos g] at hT
      have la := ex_len s 0 2 (by omega)
      have lb := ex_len s 3 5 (by omega)
      rw [clock_num2 _ _ la lb] at hT
      have ba := numR_bd _ la
      have bb := numR_bd _ lb
      obtain ⟨A, hA⟩ : ∃ A, A = s.extract 0 2 := ⟨_, rfl⟩
      obtain ⟨B, hB⟩ : ∃ B, B = s.extract 3 5 := ⟨_, rfl⟩
      have hA2 : s.extract 0 2 = A := hA.symm
      have hB2 : s.extract 3 5 = B := hB.symm
      rw [hA2] at hT ba la
      rw [hB2] at hT bb lb
      have ZA : Hid (A.size ≤ maxLen) := hide (by rw [toList_length] at la; unfold maxLen; omega)
      have ZB : Hid (B.size ≤ maxLen) := hide (by rw [toList_length] at lb; unfold maxLen; omega)
      obtain ⟨h, hh⟩ : ∃ h, h = numR A.data.toList 2 2 := ⟨_, rfl⟩
      obtain ⟨m, hm⟩ : ∃ m, m = numR B.data.toList 2 2 := ⟨_, rfl⟩
      rw [← hh] at hT ba
      rw [← hm] at hT bb
      have EA := hide hh.symm
      have EB := hide hm.symm
      have HT := hide hT
      clear hT la lb hA hB hh hm hc g
      by_cases c0 : h < 0
      · have HV : Hid (clkR s.data.toList = -1) := hide (by unfold clkR; rw [HT.out, if_neg (by omega)])
        have t0 : decide (h < 0) = true := decide_eq_true c0
        clear c0
        go_enter Tryd.func25, Tryd.ntmps25
        go_wp2_with fail
        refine (refNumber_any A 2 2 _ ZA.out (by omega) (by omega)).mono ?_
        rintro e w1 ⟨rfl, rfl⟩
        rw [EA.out]
        go_wp2_with fail
        refine (refNumber_any B 2 2 _ ZB.out (by omega) (by omega)).mono ?_
        rintro e w1 ⟨rfl, rfl⟩
        rw [EB.out]
        go_wp2_with fail
        go_ret
        exact ⟨ret_int HV.out.symm, rfl⟩
      have t0 : decide (h < 0) = false := decide_eq_false c0
      by_cases c1 : 23 < h
      · have HV : Hid (clkR s.data.toList = -1) := hide (by unfold clkR; rw [HT.out, if_neg (by omega)])
        have t1 : decide (23 < h) = true := decide_eq_true c1
        clear c0 c1
        go_enter Tryd.func25, Tryd.ntmps25
        go_wp2_with fail
        refine (refNumber_any A 2 2 _ ZA.out (by omega) (by omega)).mono ?_
        rintro e w1 ⟨rfl, rfl⟩
        rw [EA.out]
        go_wp2_with fail
        refine (refNumber_any B 2 2 _ ZB.out (by omega) (by omega)).mono ?_
        rintro e w1 ⟨rfl, rfl⟩
        rw [EB.out]
        go_wp2_with fail
        go_ret
        exact ⟨ret_int HV.out.symm, rfl⟩
      have t1 : decide (23 < h) = false := decide_eq_false c1
      by_cases c2 : m < 0
      · have HV : Hid (clkR s.data.toList = -1) := hide (by unfold clkR; rw [HT.out, if_neg (by omega)])
        have t2 : decide (m < 0) = true := decide_eq_true c2
        clear c0 c1 c2
        go_enter Tryd.func25, Tryd.ntmps25
        go_wp2_with fail
        refine (refNumber_any A 2 2 _ ZA.out (by omega) (by omega)).mono ?_
        rintro e w1 ⟨rfl, rfl⟩
        rw [EA.out]
        go_wp2_with fail
        refine (refNumber_any B 2 2 _ ZB.out (by omega) (by omega)).mono ?_
        rintro e w1 ⟨rfl, rfl⟩
        rw [EB.out]
        go_wp2_with fail
        go_ret
        exact ⟨ret_int HV.out.symm, rfl⟩
      have t2 : decide (m < 0) = false := decide_eq_false c2
      by_cases c3 : 59 < m
      · have HV : Hid (clkR s.data.toList = -1) := hide (by unfold clkR; rw [HT.out, if_neg (by omega)])
        have t3 : decide (59 < m) = true := decide_eq_true c3
        clear c0 c1 c2 c3
        go_enter Tryd.func25, Tryd.ntmps25
        go_wp2_with fail
        refine (refNumber_any A 2 2 _ ZA.out (by omega) (by omega)).mono ?_
        rintro e w1 ⟨rfl, rfl⟩
        rw [EA.out]
        go_wp2_with fail
        refine (refNumber_any B 2 2 _ ZB.out (by omega) (by omega)).mono ?_
        rintro e w1 ⟨rfl, rfl⟩
        rw [EB.out]
        go_wp2_with fail
        go_ret
        exact ⟨ret_int HV.out.symm, rfl⟩
      have t3 : decide (59 < m) = false := decide_eq_false c3
      have HV : Hid (clkR s.data.toList = 3600 * h + 60 * m) := hide (by unfold clkR; rw [HT.out, if_pos (by omega)])
      have g1 : 0 ≤ h := by omega
      have g2 : h ≤ 23 := by omega
      have g3 : 0 ≤ m := by omega
      have g4 : m ≤ 59 := by omega
      clear c0 c1 c2 c3
      go_enter Tryd.func25, Tryd.ntmps25
      go_wp2_with fail
      refine (refNumber_any A 2 2 _ ZA.out (by omega) (by omega)).mono ?_
      rintro e w1 ⟨rfl, rfl⟩
      rw [EA.out]
      go_wp2_with fail
      refine (refNumber_any B 2 2 _ ZB.out (by omega) (by omega)).mono ?_
      rintro e w1 ⟨rfl, rfl⟩
      rw [EB.out]
      go_wp2_with fail
      go_ret
      exact ⟨ret_int HV.out.symm, rfl⟩
    · have q1 : ((c.toNat : Int) != 58) = true := by rw [bne_iff_ne]; intro e; exact g (u8_eq (n := 58) (by omega) e)
      have HV : Hid (clkR s.data.toList = -1) := hide (by unfold clkR; rw [hT, if_neg g])
      clear hT g hc
      go_enter Tryd.func25, Tryd.ntmps25
      go_wp2_with fail
      go_ret
      exact ⟨ret_int HV.out.symm, rfl⟩
  by_cases h8 : s.size = 8
  · have hT := time8 s h8
    have hlt : 2 < s.size := by omega
    have hlt5 : 5 < s.size := by omega
    obtain ⟨c, hc⟩ : ∃ c, c = s[2]'hlt := ⟨_, rfl⟩
    have hc2 : s[2]'hlt = c := hc.symm
    obtain ⟨d, hd⟩ : ∃ d, d = s[5]'hlt5 := ⟨_, rfl⟩
    have hd2 : s[5]'hlt5 = d := hd.symm
    rw [← hc, ← hd] at hT
    by_cases g : c = 58
    · have q1 : ((c.toNat : Int) != 58) = false := by rw [bne_eq_false_iff_eq, g]; rfl
      by_cases g5 : d = 58
      · have q2 : ((d.toNat : Int) != 58) = false := by rw [bne_eq_false_iff_eq, g5]; rfl
        rw [if_pos ⟨g, g5⟩] at hT
        have la := ex_len s 0 2 (by omega)
        have lb := ex_len s 3 5 (by omega)
        have lc := ex_len s 6 8 (by omega)
        rw [clock_num _ _ _ la lb lc] at hT
        have ba := numR_bd _ la
        have bb := numR_bd _ lb
        have bc := numR_bd _ lc
        obtain ⟨A, hA⟩ : ∃ A, A = s.extract 0 2 := ⟨_, rfl⟩
        obtain ⟨B, hB⟩ : ∃ B, B = s.extract 3 5 := ⟨_, rfl⟩
        obtain ⟨C, hC⟩ : ∃ C, C = s.extract 6 8 := ⟨_, rfl⟩
        have hA2 : s.extract 0 2 = A := hA.symm
        have hB2 : s.extract 3 5 = B := hB.symm
        have hC2 : s.extract 6 8 = C := hC.symm
        rw [hA2] at hT ba la
        rw [hB2] at hT bb lb
        rw [hC2] at hT bc lc
        have ZA : Hid (A.size ≤ maxLen) := hide (by rw [toList_length] at la; unfold maxLen; omega)
        have ZB : Hid (B.size ≤ maxLen) := hide (by rw [toList_length] at lb; unfold maxLen; omega)
        have ZC : Hid (C.size ≤ maxLen) := hide (by rw [toList_length] at lc; unfold maxLen; omega)
        obtain ⟨h, hh⟩ : ∃ h, h = numR A.data.toList 2 2 := ⟨_, rfl⟩
        obtain ⟨m, hm⟩ : ∃ m, m = numR B.data.toList 2 2 := ⟨_, rfl⟩
        obtain ⟨n, hn⟩ : ∃ n, n = numR C.data.toList 2 2 := ⟨_, rfl⟩
        rw [← hh] at hT ba
        rw [← hm] at hT bb
        rw [← hn] at hT bc
        have EA := hide hh.symm
        have EB := hide hm.symm
        have EC := hide hn.symm
        have HT := hide hT
        clear hT la lb lc hA hB hC hh hm hn hc hd g g5
        by_cases c0 : h < 0
        · have HV : Hid (clkR s.data.toList = -1) := hide (by unfold clkR; rw [HT.out, if_neg (by omega)])
          have t0 : decide (h < 0) = true := decide_eq_true c0
          clear c0
          go_enter Tryd.func25, Tryd.ntmps25
          go_wp2_with fail
          refine (refNumber_any A 2 2 _ ZA.out (by omega) (by omega)).mono ?_
          rintro e w1 ⟨rfl, rfl⟩
          rw [EA.out]
          go_wp2_with fail
          refine (refNumber_any B 2 2 _ ZB.out (by omega) (by omega)).mono ?_
          rintro e w1 ⟨rfl, rfl⟩
          rw [EB.out]
          go_wp2_with fail
          refine (refNumber_any C 2 2 _ ZC.out (by omega) (by omega)).mono ?_
          rintro e w1 ⟨rfl, rfl⟩
          rw [EC.out]
          go_wp2_with fail
          go_ret
          exact ⟨ret_int HV.out.symm, rfl⟩
        have t0 : decide (h < 0) = false := decide_eq_false c0
        by_cases c1 : 23 < h
        · have HV : Hid (clkR s.data.toList = -1) := hide (by unfold clkR; rw [HT.out, if_neg (by omega)])
          have t1 : decide (23 < h) = true := decide_eq_true c1
          clear c0 c1
          go_enter Tryd.func25, Tryd.ntmps25
          go_wp2_with fail
          refine (refNumber_any A 2 2 _ ZA.out (by omega) (by omega)).mono ?_
          rintro e w1 ⟨rfl, rfl⟩
          rw [EA.out]
          go_wp2_with fail
          refine (refNumber_any B 2 2 _ ZB.out (by omega) (by omega)).mono ?_
          rintro e w1 ⟨rfl, rfl⟩
          rw [EB.out]
          go_wp2_with fail
          refine (refNumber_any C 2 2 _ ZC.out (by omega) (by omega)).mono ?_
          rintro e w1 ⟨rfl, rfl⟩
          rw [EC.out]
          go_wp2_with fail
          go_ret
          exact ⟨ret_int HV.out.symm, rfl⟩
        have t1 : decide (23 < h) = false := decide_eq_false c1
        by_cases c2 : m < 0
        · have HV : Hid (clkR s.data.toList = -1) := hide (by unfold clkR; rw [HT.out, if_neg (by omega)])
          have t2 : decide (m < 0) = true := decide_eq_true c2
          clear c0 c1 c2
          go_enter Tryd.func25, Tryd.ntmps25
          go_wp2_with fail
          refine (refNumber_any A 2 2 _ ZA.out (by omega) (by omega)).mono ?_
          rintro e w1 ⟨rfl, rfl⟩
          rw [EA.out]
          go_wp2_with fail
          refine (refNumber_any B 2 2 _ ZB.out (by omega) (by omega)).mono ?_
          rintro e w1 ⟨rfl, rfl⟩
          rw [EB.out]
          go_wp2_with fail
          refine (refNumber_any C 2 2 _ ZC.out (by omega) (by omega)).mono ?_
          rintro e w1 ⟨rfl, rfl⟩
          rw [EC.out]
          go_wp2_with fail
          go_ret
          exact ⟨ret_int HV.out.symm, rfl⟩
        have t2 : decide (m < 0) = false := decide_eq_false c2
        by_cases c3 : 59 < m
        · have HV : Hid (clkR s.data.toList = -1) := hide (by unfold clkR; rw [HT.out, if_neg (by omega)])
          have t3 : decide (59 < m) = true := decide_eq_true c3
          clear c0 c1 c2 c3
          go_enter Tryd.func25, Tryd.ntmps25
          go_wp2_with fail
          refine (refNumber_any A 2 2 _ ZA.out (by omega) (by omega)).mono ?_
          rintro e w1 ⟨rfl, rfl⟩
          rw [EA.out]
          go_wp2_with fail
          refine (refNumber_any B 2 2 _ ZB.out (by omega) (by omega)).mono ?_
          rintro e w1 ⟨rfl, rfl⟩
          rw [EB.out]
          go_wp2_with fail
          refine (refNumber_any C 2 2 _ ZC.out (by omega) (by omega)).mono ?_
          rintro e w1 ⟨rfl, rfl⟩
          rw [EC.out]
          go_wp2_with fail
          go_ret
          exact ⟨ret_int HV.out.symm, rfl⟩
        have t3 : decide (59 < m) = false := decide_eq_false c3
        by_cases c4 : n < 0
        · have HV : Hid (clkR s.data.toList = -1) := hide (by unfold clkR; rw [HT.out, if_neg (by omega)])
          have t4 : decide (n < 0) = true := decide_eq_true c4
          clear c0 c1 c2 c3 c4
          go_enter Tryd.func25, Tryd.ntmps25
          go_wp2_with fail
          refine (refNumber_any A 2 2 _ ZA.out (by omega) (by omega)).mono ?_
          rintro e w1 ⟨rfl, rfl⟩
          rw [EA.out]
          go_wp2_with fail
          refine (refNumber_any B 2 2 _ ZB.out (by omega) (by omega)).mono ?_
          rintro e w1 ⟨rfl, rfl⟩
          rw [EB.out]
          go_wp2_with fail
          refine (refNumber_any C 2 2 _ ZC.out (by omega) (by omega)).mono ?_
          rintro e w1 ⟨rfl, rfl⟩
          rw [EC.out]
          go_wp2_with fail
          go_ret
          exact ⟨ret_int HV.out.symm, rfl⟩
        have t4 : decide (n < 0) = false := decide_eq_false c4
        by_cases c5 : 59 < n
        · have HV : Hid (clkR s.data.toList = -1) := hide (by unfold clkR; rw [HT.out, if_neg (by omega)])
          have t5 : decide (59 < n) = true := decide_eq_true c5
          clear c0 c1 c2 c3 c4 c5
          go_enter Tryd.func25, Tryd.ntmps25
          go_wp2_with fail
          refine (refNumber_any A 2 2 _ ZA.out (by omega) (by omega)).mono ?_
          rintro e w1 ⟨rfl, rfl⟩
          rw [EA.out]
          go_wp2_with fail
          refine (refNumber_any B 2 2 _ ZB.out (by omega) (by omega)).mono ?_
          rintro e w1 ⟨rfl, rfl⟩
          rw [EB.out]
          go_wp2_with fail
          refine (refNumber_any C 2 2 _ ZC.out (by omega) (by omega)).mono ?_
          rintro e w1 ⟨rfl, rfl⟩
          rw [EC.out]
          go_wp2_with fail
          go_ret
          exact ⟨ret_int HV.out.symm, rfl⟩
        have t5 : decide (59 < n) = false := decide_eq_false c5
        have HV : Hid (clkR s.data.toList = 3600 * h + 60 * m + n) := hide (by unfold clkR; rw [HT.out, if_pos (by omega)])
        have g1 : 0 ≤ h := by omega
        have g2 : h ≤ 23 := by omega
        have g3 : 0 ≤ m := by omega
        have g4 : m ≤ 59 := by omega
        have g5 : 0 ≤ n := by omega
        have g6 : n ≤ 59 := by omega
        clear c0 c1 c2 c3 c4 c5
        go_enter Tryd.func25, Tryd.ntmps25
        go_wp2_with fail
        refine (refNumber_any A 2 2 _ ZA.out (by omega) (by omega)).mono ?_
        rintro e w1 ⟨rfl, rfl⟩
        rw [EA.out]
        go_wp2_with fail
        refine (refNumber_any B 2 2 _ ZB.out (by omega) (by omega)).mono ?_
        rintro e w1 ⟨rfl, rfl⟩
        rw [EB.out]
        go_wp2_with fail
        refine (refNumber_any C 2 2 _ ZC.out (by omega) (by omega)).mono ?_
        rintro e w1 ⟨rfl, rfl⟩
        rw [EC.out]
        go_wp2_with fail
        go_ret
        exact ⟨ret_int HV.out.symm, rfl⟩
      · have q2 : ((d.toNat : Int) != 58) = true := by rw [bne_iff_ne]; intro e; exact g5 (u8_eq (n := 58) (by omega) e)
        have HV : Hid (clkR s.data.toList = -1) := hide (by unfold clkR; rw [hT, if_neg (fun x => g5 x.2)])
        clear hT g g5 hc hd
        go_enter Tryd.func25, Tryd.ntmps25
        go_wp2_with fail
        go_ret
        exact ⟨ret_int HV.out.symm, rfl⟩
    · have q1 : ((c.toNat : Int) != 58) = true := by rw [bne_iff_ne]; intro e; exact g (u8_eq (n := 58) (by omega) e)
      have HV : Hid (clkR s.data.toList = -1) := hide (by unfold clkR; rw [hT, if_neg (fun x => g x.1)])
      clear hT g hc hd hd2
      go_enter Tryd.func25, Tryd.ntmps25
      go_wp2_with fail
      go_ret
      exact ⟨ret_int HV.out.symm, rfl⟩
  · have HV : Hid (clkR s.data.toList = -1) := hide (by unfold clkR; rw [time_len _ (by rw [toList_length]; exact h5) (by rw [toList_length]; exact h8)])
    have t5 : ((s.size : Int) != 5) = true := by rw [bne_iff_ne]; omega
    have t8 : ((s.size : Int) != 8) = true := by rw [bne_iff_ne]; omega
    clear h5 h8
    go_enter Tryd.func25, Tryd.ntmps25
    go_wp2_with fail
    go_ret
    exact ⟨ret_int HV.out.symm, rfl⟩
end Go.Proofs.YtiojfknphpnlhaaDoor
