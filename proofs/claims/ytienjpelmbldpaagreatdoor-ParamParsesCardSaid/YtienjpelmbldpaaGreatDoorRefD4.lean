/- WALK of the reference's Decode for chars: UTF-16. No statement is proved here. -/
import Derived.Test.YtienjpelmbldpaaGreatDoorRefK
import Derived.Test.YtienjpelmbldpaaGreatDoorRefSign
import Derived.Test.YtienjpelmbldpaaGreatDoorRefDP
namespace Go.Proofs.YtienjpelmbldpaaGreatDoor
open Go.RowKit
set_option linter.unusedVariables false
set_option linter.unusedSimpArgs false

set_option maxRecDepth 100000 in
set_option maxHeartbeats 4000000 in
theorem refDec4 (label s : ByteArray) (w : World) (hl : label.size ≤ 70368744177664) (hs : s.size ≤ 1048576) (hk : kindL label.data.toList = 4) :
    Calls Tryz.prog 47 #[.string label, .string s] w fun e w' => e = .returned (.tuple #[.string (str (pairsL true s.data.toList)), .bool true]) ∧ Below w.heap.size w w' := by
  have HK := hide (fun (w : World) => refKnown_any label w hl)
  rw [hk] at HK
  have KVV : Hid (knownV 4 = .tuple #[.string ⟨#[117, 116, 102, 45, 49, 54, 98, 101]⟩, .bool true]) := hide rfl
  clear hk
  go_enter Tryz.func47, Tryz.ntmps47
  go_wp2_with fail
  refine (HK.out _).mono ?_
  rintro e w1 ⟨rfl, hb1⟩
  rw [KVV.out]
  go_wp2_with fail
  refine (units_any s true _ hs).mono ?_
  rintro e w2 ⟨U, rfl, hU, hb2⟩
  have k2 := hb1.trans (hb2.mono hb1.size)
  have K2 := hide k2
  have hul := units_length true s.data.toList
  have hult := units_lt true s.data.toList
  have HUL := hide hult
  rw [toList_length] at hul
  have HP : Hid (pairsL true s.data.toList = u16 (unitsL true s.data.toList) ++ if s.size % 2 = 1 then bad else []) := hide (by unfold pairsL tailL; rw [toList_length])
  obtain ⟨us, hus⟩ : ∃ us, us = unitsL true s.data.toList := ⟨_, rfl⟩
  rw [← hus] at hU hul HUL HP
  clear hus hult
  obtain ⟨ao, cap, rfl, hao⟩ := hU.form
  have HI0 := hide hU
  have HAO := hide hao
  clear hU hao k2
  have hb0 : Buf w2.heap.size (.slice none 0 0) [] w2 w2 := Buf.nil (Below.refl _ _) (Nat.le_refl _)
  have HB0 := hide hb0
  have hz3 : (⟨#[239, 191, 189]⟩ : ByteArray).size = 3 := rfl
  clear hb0
  have hodd : (s.size % 2 = 1 ∧ decide (s.size % 2 = 1) = true) ∨ (s.size % 2 ≠ 1 ∧ decide (s.size % 2 = 1) = false) := by
    by_cases g : s.size % 2 = 1
    · exact .inl ⟨g, decide_eq_true g⟩
    · exact .inr ⟨g, decide_eq_false g⟩
  generalize decide (s.size % 2 = 1) = odd at hodd
  have HODD := hide hodd
  clear hodd
  go_wp2_with fail
  go_loopw [8, 13] (fun v i wr => ∃ (j : Nat) (acc : List UInt8), j ≤ us.length ∧ i = .int .i64 j ∧ Buf w2.heap.size v acc w2 wr ∧ Ints wr (.slice ao us.length cap) us ∧ acc.length ≤ 3 * j ∧ acc ++ u16 (us.drop j) = u16 us) (fun _ i _ => us.length - (intOf i).toNat)
  case atStart => exact ⟨0, [], Nat.zero_le _, rfl, HB0.out, HI0.out, Nat.le_refl _, by simp⟩
  case round =>
    obtain ⟨j, acc, hj, rfl, hb, hi, hacc, hd⟩ := hrel
    have HB := hide hb
    have HI := hide hi
    clear hb hi
    by_cases hlt : j < us.length
    · obtain ⟨g, hg⟩ := HAO.out (by omega)
      subst hg
      have hca := HI.out.cell j hlt
      have ha16 := HUL.out us[j] (List.getElem_mem hlt)
      have hlen := (runeL_length (us[j] : Int)).2.2 (by omega)
      rcases ahead_case us j hlt with ⟨h1, p1, p2, p3, p4, pe⟩ | ⟨pe, pc⟩
      · have hcb := HI.out.cell (j + 1) h1
        have hlen2 := (runeL_length (pairV us[j] us[j + 1])).2.1
        rw [pe, ← List.append_assoc] at hd
        obtain ⟨r, hr⟩ : ∃ r : Nat, pairV us[j] us[j + 1] = r := ⟨(pairV us[j] us[j + 1]).toNat, by unfold pairV; omega⟩
        rw [hr] at hd hlen2
        unfold pairV at hr
        generalize us[j + 1] = b at hcb p3 p4 hr
        generalize us[j] = a at hca ha16 p1 p2 hr hlen
        have HR := hide hd
        have hrb : r ≤ 1114111 := by omega
        have hr2 : 65536 + 1024 * ((a : Int) - 55296) + (b : Int) - 56320 = r := by omega
        have HRR := hide hr2
        have t1 : decide ((55296 : Int) ≤ a) = true := decide_eq_true (by omega)
        have t2 : decide ((a : Int) ≤ 56319) = true := decide_eq_true (by omega)
        have t3 : decide ((j : Int) + 1 < us.length) = true := decide_eq_true (by omega)
        have t4 : decide ((56320 : Int) ≤ b) = true := decide_eq_true (by omega)
        have t5 : decide ((b : Int) ≤ 57343) = true := decide_eq_true (by omega)
        have q1 : IntKind.i64.wrap ((a : Int) - 55296) = (a : Int) - 55296 := IntWalk.i64_in _ (by omega)
        have q2 : IntKind.i64.wrap (1024 * ((a : Int) - 55296)) = 1024 * ((a : Int) - 55296) := IntWalk.i64_in _ (by omega)
        have q3 : IntKind.i64.wrap (65536 + 1024 * ((a : Int) - 55296)) = 65536 + 1024 * ((a : Int) - 55296) := IntWalk.i64_in _ (by omega)
        have q4 : IntKind.i64.wrap (65536 + 1024 * ((a : Int) - 55296) + (b : Int)) = 65536 + 1024 * ((a : Int) - 55296) + (b : Int) := IntWalk.i64_in _ (by omega)
        have q5 : IntKind.i64.wrap (65536 + 1024 * ((a : Int) - 55296) + (b : Int) - 56320) = 65536 + 1024 * ((a : Int) - 55296) + (b : Int) - 56320 := IntWalk.i64_in _ (by omega)
        have q6 : IntKind.i64.wrap ((j : Int) + 1) = (j : Int) + 1 := IntWalk.i64_in _ (by omega)
        have n1 : ((j : Int) + 1).toNat = j + 1 := by omega
        have i0 : (j : Int) < us.length := by omega
        have i1 : (j : Int) + 1 < us.length := by omega
        have i2 : (0 : Int) ≤ (j : Int) + 1 := by omega
        have i3 : (0 : Int) ≤ (j : Int) := by omega
        clear pe hd hr hr2 p1 p2 p3 p4 ha16 hlen
        go_wp2_with fail
        have hcad : wr.drew.cell? ⟨g, j, none⟩ = some (.int .i64 a) := hca
        have hcbd : wr.drew.cell? ⟨g, j + 1, none⟩ = some (.int .i64 b) := hcb
        have hri : ((str (runeL r)).size : Nat) ≤ 4 := by rw [str_size]; exact hlen2
        go_region_law (first
          | (refine step_buf_text_i rfl _ _ rfl w2.heap.size u8 acc rfl w2 HB3.out (str (runeL r)) rfl (by omega) ?_
             intro v4 w4 hb4 hi4
             rw [str_toList] at hb4
             have HB4 := hide hb4
             have HI4 := hide (hi4 _ _ HI3.out)
             clear hb4 hi4)
          | (go_simp; go_at_call 75; rw [HRR.out]; refine (sign_any r _ hrb).mono ?_; rintro e w3 ⟨rfl, hb3⟩; have HB3 := hide (HB.out.drew.kept hb3); have HI3 := hide (HI.out.drew.kept hb3)))
        all_goals
          go_wp2_with fail
          go_roundw
          case rel => exact ⟨j + 2, acc ++ _, by omega, by go_num, HB4.out, HI4.out, by rw [List.length_append]; omega, HR.out⟩
          case measure => simp [intOf]; omega
      rw [pe, ← List.append_assoc] at hd
      have HR := hide hd
      clear hd pe
      have i3 : (0 : Int) ≤ (j : Int) := by omega
      have i0 : (j : Int) < us.length := by omega
      rcases pc with p1 | ⟨p1, p2⟩ | ⟨p1, p2, p3⟩ | ⟨h1, p1, p2, p3⟩ | ⟨h1, p1, p2, p3, p4⟩
      · have t1 : decide ((55296 : Int) ≤ us[j]) = false := decide_eq_false (by omega)
        have HCA := hide hca
        clear p1
        generalize us[j] = a at hca ha16 HR hlen t1
        go_wp2_with fail
        refine (sign_any a _ (by omega)).mono ?_
        rintro e w3 ⟨rfl, hb3⟩
        have HB3 := hide (HB.out.kept hb3)
        have HI3 := hide (HI.out.kept hb3)
        go_wp2_with (refine wpList_buf_text_i rfl _ _ rfl w2.heap.size u8 acc rfl w2 HB3.out (str (runeL a)) rfl (by rw [str_size]; omega) ?_; intro v4 w4 hb4 hi4; rw [str_toList] at hb4; have HB4 := hide hb4; have HI4 := hide (hi4 _ _ HI3.out); clear hb4 hi4)
        go_roundw
        case rel => exact ⟨j + 1, acc ++ _, by omega, by go_num, HB4.out, HI4.out, by rw [List.length_append]; omega, HR.out⟩
        case measure => simp [intOf]; omega
      · have t1 : decide ((55296 : Int) ≤ us[j]) = true := decide_eq_true (by omega)
        have HCA := hide hca
        have t2 : decide ((us[j] : Int) ≤ 56319) = false := decide_eq_false (by omega)
        clear p1 p2
        generalize us[j] = a at hca ha16 HR hlen t1 t2
        go_wp2_with fail
        refine (sign_any a _ (by omega)).mono ?_
        rintro e w3 ⟨rfl, hb3⟩
        have HB3 := hide (HB.out.kept hb3)
        have HI3 := hide (HI.out.kept hb3)
        go_wp2_with (refine wpList_buf_text_i rfl _ _ rfl w2.heap.size u8 acc rfl w2 HB3.out (str (runeL a)) rfl (by rw [str_size]; omega) ?_; intro v4 w4 hb4 hi4; rw [str_toList] at hb4; have HB4 := hide hb4; have HI4 := hide (hi4 _ _ HI3.out); clear hb4 hi4)
        go_roundw
        case rel => exact ⟨j + 1, acc ++ _, by omega, by go_num, HB4.out, HI4.out, by rw [List.length_append]; omega, HR.out⟩
        case measure => simp [intOf]; omega
      · have t1 : decide ((55296 : Int) ≤ us[j]) = true := decide_eq_true (by omega)
        have HCA := hide hca
        have t2 : decide ((us[j] : Int) ≤ 56319) = true := decide_eq_true (by omega)
        have t3 : decide ((j : Int) + 1 < us.length) = false := decide_eq_false (by omega)
        clear p1 p2
        generalize us[j] = a at hca ha16 HR hlen t1 t2
        go_wp2_with fail
        refine (sign_any a _ (by omega)).mono ?_
        rintro e w3 ⟨rfl, hb3⟩
        have HB3 := hide (HB.out.kept hb3)
        have HI3 := hide (HI.out.kept hb3)
        go_wp2_with (refine wpList_buf_text_i rfl _ _ rfl w2.heap.size u8 acc rfl w2 HB3.out (str (runeL a)) rfl (by rw [str_size]; omega) ?_; intro v4 w4 hb4 hi4; rw [str_toList] at hb4; have HB4 := hide hb4; have HI4 := hide (hi4 _ _ HI3.out); clear hb4 hi4)
        go_roundw
        case rel => exact ⟨j + 1, acc ++ _, by omega, by go_num, HB4.out, HI4.out, by rw [List.length_append]; omega, HR.out⟩
        case measure => simp [intOf]; omega
      · have t1 : decide ((55296 : Int) ≤ us[j]) = true := decide_eq_true (by omega)
        have HCA := hide hca
        have t2 : decide ((us[j] : Int) ≤ 56319) = true := decide_eq_true (by omega)
        have t3 : decide ((j : Int) + 1 < us.length) = true := decide_eq_true (by omega)
        have t4 : decide ((56320 : Int) ≤ us[j + 1]) = false := decide_eq_false (by omega)
        have hcb := HI.out.cell (j + 1) h1
        have n1 : ((j : Int) + 1).toNat = j + 1 := by omega
        have i1 : (j : Int) + 1 < us.length := by omega
        have i2 : (0 : Int) ≤ (j : Int) + 1 := by omega
        clear p1 p2 p3
        generalize us[j + 1] = b at hcb t4
        generalize us[j] = a at hca ha16 HR hlen t1 t2
        go_wp2_with fail
        refine (sign_any a _ (by omega)).mono ?_
        rintro e w3 ⟨rfl, hb3⟩
        have HB3 := hide (HB.out.kept hb3)
        have HI3 := hide (HI.out.kept hb3)
        go_wp2_with (refine wpList_buf_text_i rfl _ _ rfl w2.heap.size u8 acc rfl w2 HB3.out (str (runeL a)) rfl (by rw [str_size]; omega) ?_; intro v4 w4 hb4 hi4; rw [str_toList] at hb4; have HB4 := hide hb4; have HI4 := hide (hi4 _ _ HI3.out); clear hb4 hi4)
        go_roundw
        case rel => exact ⟨j + 1, acc ++ _, by omega, by go_num, HB4.out, HI4.out, by rw [List.length_append]; omega, HR.out⟩
        case measure => simp [intOf]; omega
      · have t1 : decide ((55296 : Int) ≤ us[j]) = true := decide_eq_true (by omega)
        have HCA := hide hca
        have t2 : decide ((us[j] : Int) ≤ 56319) = true := decide_eq_true (by omega)
        have t3 : decide ((j : Int) + 1 < us.length) = true := decide_eq_true (by omega)
        have t4 : decide ((56320 : Int) ≤ us[j + 1]) = true := decide_eq_true (by omega)
        have t5 : decide ((us[j + 1] : Int) ≤ 57343) = false := decide_eq_false (by omega)
        have hcb := HI.out.cell (j + 1) h1
        have n1 : ((j : Int) + 1).toNat = j + 1 := by omega
        have i1 : (j : Int) + 1 < us.length := by omega
        have i2 : (0 : Int) ≤ (j : Int) + 1 := by omega
        clear p1 p2 p3 p4
        generalize us[j + 1] = b at hcb t4 t5
        generalize us[j] = a at hca ha16 HR hlen t1 t2
        go_wp2_with fail
        refine (sign_any a _ (by omega)).mono ?_
        rintro e w3 ⟨rfl, hb3⟩
        have HB3 := hide (HB.out.kept hb3)
        have HI3 := hide (HI.out.kept hb3)
        go_wp2_with (refine wpList_buf_text_i rfl _ _ rfl w2.heap.size u8 acc rfl w2 HB3.out (str (runeL a)) rfl (by rw [str_size]; omega) ?_; intro v4 w4 hb4 hi4; rw [str_toList] at hb4; have HB4 := hide hb4; have HI4 := hide (hi4 _ _ HI3.out); clear hb4 hi4)
        go_roundw
        case rel => exact ⟨j + 1, acc ++ _, by omega, by go_num, HB4.out, HI4.out, by rw [List.length_append]; omega, HR.out⟩
        case measure => simp [intOf]; omega
    · rw [List.drop_eq_nil_of_le (by omega)] at hd
      rw [show u16 [] = [] from rfl, List.append_nil] at hd
      rcases HODD.out with ⟨g, rfl⟩ | ⟨g, rfl⟩
      · have HD : Hid (acc ++ bad = pairsL true s.data.toList) := hide (by rw [HP.out, if_pos g, hd])
        clear hd g
        go_wp2_with (refine wpList_buf_text rfl _ _ rfl w2.heap.size u8 acc rfl w2 HB.out ⟨#[239, 191, 189]⟩ rfl (by omega) ?_; intro v4 w4 hb4; have HB4 := hide hb4; have hcv := hb4.convert; clear hb4)
        go_ret2
        exact ⟨by rw [← HD.out]; rfl, K2.out.trans (HB4.out.below.mono K2.out.size)⟩
      · have HD : Hid (acc = pairsL true s.data.toList) := hide (by rw [HP.out, if_neg g, hd, List.append_nil])
        have hcv := HB.out.convert
        clear hd g
        go_wp2_with fail
        go_ret2
        exact ⟨by rw [← HD.out]; rfl, K2.out.trans (HB.out.below.mono K2.out.size)⟩
end Go.Proofs.YtienjpelmbldpaaGreatDoor
