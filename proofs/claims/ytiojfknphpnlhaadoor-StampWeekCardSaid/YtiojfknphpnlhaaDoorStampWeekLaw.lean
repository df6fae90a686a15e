/- WALK of the law StampWeek. The statement itself: the row's text. -/
import Derived.Test.YtiojfknphpnlhaaDoorStampLaw0
import Derived.Test.YtiojfknphpnlhaaDoorStampLawT
import Derived.Test.YtiojfknphpnlhaaDoorStampX
import Derived.Deep.RegionHeld3
import Derived.Deep.DeepMust
namespace Go.Proofs.YtiojfknphpnlhaaDoor
set_option maxRecDepth 100000
open Go.RowKit
set_option linter.unusedVariables false
set_option linter.unusedSimpArgs false

theorem text_head (q y m d t : Int) : (textL q y m d t).take 3 = dayUp q := by
  have hl := dayUp_len q
  unfold textL dateL
  simp only [List.append_assoc]
  rw [List.take_append_of_le_length (by omega), List.take_of_length_le (by omega)]
theorem text_tail (q y m d t : Int) (h : 1 ≤ m) (h' : m ≤ 12) : (textL q y m d t).drop 17 = timeL t ++ [32, 43, 48, 48, 48, 48] := by
  have hl := dateL_len q y m d h h'
  unfold textL
  rw [List.append_assoc, List.drop_append_of_le_length (by rw [List.length_append, hl]; decide), List.drop_eq_nil_of_le (by rw [List.length_append, hl]; decide), List.nil_append]
theorem dayUp_seven (q : Int) : dayUp (q + 7) = dayUp q := by unfold dayUp; rw [show (q + 7) % 7 = q % 7 by omega]
theorem dayUp_next (q : Int) : dayUp (q + 1) ≠ dayUp q := by
  unfold dayUp
  obtain ⟨k, hk⟩ : ∃ k : Nat, (k : Int) = q % 7 := ⟨(q % 7).toNat, by omega⟩
  have hk7 : k < 7 := by omega
  rw [← hk, show (q + 1) % 7 = (((k + 1) % 7 : Nat) : Int) by omega]
  obtain rfl | rfl | rfl | rfl | rfl | rfl | rfl : k = 0 ∨ k = 1 ∨ k = 2 ∨ k = 3 ∨ k = 4 ∨ k = 5 ∨ k = 6 := by omega
  all_goals decide +kernel
theorem ext3 (l : List UInt8) : (str l).extract 0 3 = str (l.take 3) := ext_list (by rw [extract_list, str_toList, str_toList, List.drop_zero])
theorem ext17 (l : List UInt8) (h : l.length = 31) : (str l).extract 17 31 = str (l.drop 17) := ext_list (by rw [extract_list, str_toList, str_toList, List.take_of_length_le (by omega)])
set_option maxHeartbeats 1000000 in
theorem law_StampWeek (n : Int) (w : World) (hE : EnvS w) :
    Calls Tryd.prog 9 #[.int .i64 n] w fun e w' => e = .returned (.bool true) ∧ Below w.heap.size w w' := by
  have HE := hide hE
  clear hE
  by_cases h : n < -2208988800 ∨ 253402300800 ≤ n
  · have H := hide h
    clear h
    go_enter Tryd.func9, Tryd.ntmps9
    go_wp2_with fail
    refine (writeNo_any n _ H.out).mono ?_
    rintro e w1 ⟨rfl, rfl⟩
    go_wp2_with fail
    refine (live9_any _ HE.out).mono ?_
    rintro e wl ⟨rfl, hbl⟩
    have HBL := hide hbl
    clear hbl
    go_wp2_with fail
    go_ret
    exact ⟨rfl, HBL.out⟩
  · have h1 : -2208988800 ≤ n := by omega
    have h2 : n < 253402300800 := by omega
    clear h
    by_cases h3 : 253000000000 < n
    · have t3 : decide (253000000000 < n) = true := decide_eq_true h3
      go_enter Tryd.func9, Tryd.ntmps9
      go_wp2_with fail
      refine (writeYes_any n _ HE.out h1 h2).mono ?_
      rintro e w1 ⟨y, m, d, hm, hd, rfl, hb⟩
      have HB := hide hb
      clear hm hd hb
      go_wp2_with fail
      refine (live9_any _ (HE.out.kept HB.out)).mono ?_
      rintro e wl ⟨rfl, hbl⟩
      have HBL := hide (HB.out.trans (hbl.mono HB.out.size))
      clear hbl
      go_wp2_with fail
      go_ret
      exact ⟨rfl, HBL.out⟩
    · have t3 : decide (253000000000 < n) = false := decide_eq_false h3
      go_enter Tryd.func9, Tryd.ntmps9
      go_wp2_with fail
      refine (writeYes_any n _ HE.out h1 h2).mono ?_
      rintro e w1 ⟨y, m, d, hm, hd, rfl, hb⟩
      obtain ⟨A, hA⟩ : ∃ A, A = str (textL (n / 86400) y m d (n % 86400)) := ⟨_, rfl⟩
      rw [← hA]
      have HB := hide hb
      have HA := hide hA
      have HM := hide hm
      clear hA hm hd hb
      go_wp2_with fail
      refine (writeYes_any (n + 604800) _ (HE.out.kept HB.out) (by omega) (by omega)).mono ?_
      rintro e w2 ⟨y2, m2, d2, hm2, hd2, rfl, hb2⟩
      obtain ⟨B, hB⟩ : ∃ B, B = str (textL ((n + 604800) / 86400) y2 m2 d2 ((n + 604800) % 86400)) := ⟨_, rfl⟩
      rw [← hB]
      have HB2 := hide (HB.out.trans (hb2.mono HB.out.size))
      have HBB := hide hB
      have HM2 := hide hm2
      clear hB hm2 hd2 hb2
      go_wp2_with fail
      refine (writeYes_any (n + 86400) _ (HE.out.kept HB2.out) (by omega) (by omega)).mono ?_
      rintro e w3 ⟨y3, m3, d3, hm3, hd3, rfl, hb3⟩
      obtain ⟨C, hC⟩ : ∃ C, C = str (textL ((n + 86400) / 86400) y3 m3 d3 ((n + 86400) % 86400)) := ⟨_, rfl⟩
      rw [← hC]
      have HB3 := hide (HB2.out.trans (hb3.mono HB2.out.size))
      have lA := textL_len (n / 86400) y m d (n % 86400) HM.out.2.2.1 HM.out.2.2.2.1
      have lB := textL_len ((n + 604800) / 86400) y2 m2 d2 ((n + 604800) % 86400) HM2.out.2.2.1 HM2.out.2.2.2.1
      have lC := textL_len ((n + 86400) / 86400) y3 m3 d3 ((n + 86400) % 86400) hm3.2.2.1 hm3.2.2.2.1
      have sA : A.size = 31 := by rw [HA.out, str_size, lA]
      have sB : B.size = 31 := by rw [HBB.out, str_size, lB]
      have sC : C.size = 31 := by rw [hC, str_size, lC]
      have eA3 : A.extract 0 3 = str (dayUp (n / 86400)) := by rw [HA.out, ext3, text_head]
      have eB3 : B.extract 0 3 = str (dayUp (n / 86400)) := by rw [HBB.out, ext3, text_head, show (n + 604800) / 86400 = n / 86400 + 7 by omega, dayUp_seven]
      have eC3 : C.extract 0 3 = str (dayUp (n / 86400 + 1)) := by rw [hC, ext3, text_head, show (n + 86400) / 86400 = n / 86400 + 1 by omega]
      have eA17 : A.extract 17 31 = str (timeL (n % 86400) ++ [32, 43, 48, 48, 48, 48]) := by rw [HA.out, ext17 _ lA, text_tail _ _ _ _ _ HM.out.2.2.1 HM.out.2.2.2.1]
      have eC17 : C.extract 17 31 = str (timeL (n % 86400) ++ [32, 43, 48, 48, 48, 48]) := by rw [hC, ext17 _ lC, text_tail _ _ _ _ _ hm3.2.2.1 hm3.2.2.2.1, show (n + 86400) % 86400 = n % 86400 by omega]
      have q1 : ((A.extract 0 3).toList == (B.extract 0 3).toList) = true := by rw [eA3, eB3]; exact beq_self_eq_true _
      have q2 : ((A.extract 0 3).toList == (C.extract 0 3).toList) = false := by
        rw [eA3, eC3, str_list, str_list, beq_eq_false_iff_ne]; exact fun e => dayUp_next _ e.symm
      have q3 : ((A.extract 0 3).toList != (C.extract 0 3).toList) = true := by rw [bne, q2]; rfl
      have q4 : ((A.extract 17 31).toList == (C.extract 17 31).toList) = true := by rw [eA17, eC17]; exact beq_self_eq_true _
      have hcb := Below.refl w3.heap.size w3
      have HE3 := hide (HE.out.kept HB3.out)
      clear hC hm3 hd3 hb3 eA3 eB3 eC3 eA17 eC17 lA lB lC
      have HL := hide (fun w' (hb : Below w3.heap.size w3 w') => live9_any w' (HE3.out.kept hb))
      go_wp2_with fail
      go_region_held3 (fun w' => Below w3.heap.size w3 w')
        (first | (with_reducible assumption) | (with_reducible exact Below.drew (by assumption)) | (with_reducible exact Below.trans (by with_reducible assumption) (Below.mono (by with_reducible assumption) (Below.size (by with_reducible assumption)))) | go_keep)
        ((go_at_call 10; go_must (refine (HL.out _ (by with_reducible assumption)).mono ?_; rintro e w5 ⟨rfl, hb5⟩)))
      go_wp2_with fail
      go_ret
      refine ⟨rfl, HB3.out.trans (Below.mono ?_ HB3.out.size)⟩
      first | with_reducible assumption | with_reducible exact And.left (by assumption)
end Go.Proofs.YtiojfknphpnlhaaDoor
