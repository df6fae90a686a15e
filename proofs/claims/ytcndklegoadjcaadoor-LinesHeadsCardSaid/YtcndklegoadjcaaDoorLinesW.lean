/- WALKS of lines.mayBeName, mayBeValue, field. No statement is proved here. -/
import Derived.Test.YtcndklegoadjcaaDoorLinesP
import Derived.Test.YtcndklegoadjcaaDoorAny
import Derived.Test.YtcndklegoadjcaaDoorCut
namespace Go.Proofs.YtcndklegoadjcaaDoor
open Go.RowKit
set_option linter.unusedVariables false
set_option linter.unusedSimpArgs false
set_option maxRecDepth 100000

theorem hasC_index (l : List UInt8) (c : UInt8) : decide (0 ≤ Lib.indexByte l c) = hasC c l := by
  rcases index_cut c l with ⟨h1, h2, _⟩ | ⟨o, h1, _, h3, _⟩
  · rw [h1, hasC_false h2]; rfl
  · rw [h1, hasC_true h3]; exact decide_eq_true (by omega)
theorem emptyE {x : ByteArray} (h : x.data.toList = []) : x.toList.isEmpty = true := by rw [bytes_list, h]; rfl
theorem emptyN {x : ByteArray} (h : x.data.toList ≠ []) : x.toList.isEmpty = false := by
  rw [bytes_list]
  cases hx : x.data.toList with
  | nil => exact absurd hx h
  | cons _ _ => rfl
set_option maxHeartbeats 1000000 in
theorem mayBeName_any (s : ByteArray) (w : World) (hs : s.size ≤ maxLen) :
    Calls Tryd.prog 32 #[.string s] w fun e w' => e = .returned (.bool (nameB s.data.toList)) ∧ w = w' := by
  by_cases h0 : s.data.toList = []
  · have t0 := emptyE h0
    have HV : Hid (nameB s.data.toList = false) := hide (by rw [h0]; rfl)
    clear h0
    go_enter Tryd.func32, Tryd.ntmps32
    go_wp2_with fail
    go_ret
    exact ⟨ret_bool HV.out.symm, rfl⟩
  have t0 := emptyN h0
  have hne : s.data.toList.isEmpty = false := by rw [← bytes_list]; exact t0
  cases hw : withinB 33 126 s.data.toList with
  | false =>
    have HV : Hid (nameB s.data.toList = false) := hide (by unfold nameB; rw [hw]; simp)
    have HW := hide hw
    clear h0 hw hne
    go_enter Tryd.func32, Tryd.ntmps32
    go_wp2_with fail
    refine (within_any s 33 126 _ hs).mono ?_
    rintro e w1 ⟨rfl, rfl⟩
    rw [HW.out]
    go_wp2_with fail
    go_ret
    exact ⟨ret_bool HV.out.symm, rfl⟩
  | true =>
    have HV : Hid (nameB s.data.toList = !hasC 58 s.data.toList) := hide (by unfold nameB; rw [hw, hne]; simp)
    have HW := hide hw
    have HC := hide (hasC_index s.data.toList 58)
    obtain ⟨q, hq⟩ : ∃ q, q = hasC 58 s.data.toList := ⟨_, rfl⟩
    rw [← hq] at HC HV
    clear h0 hw hne hq
    go_enter Tryd.func32, Tryd.ntmps32
    go_wp2_with fail
    refine (within_any s 33 126 _ hs).mono ?_
    rintro e w1 ⟨rfl, rfl⟩
    rw [HW.out]
    go_wp2_with fail
    refine (Tryd.strings_Contains_one s 58 _).mono ?_
    rintro e w1 ⟨rfl, hw1⟩
    obtain rfl : w = w1 := hw1.symm
    rw [HC.out]
    go_wp2_with fail
    go_ret
    exact ⟨ret_bool HV.out.symm, rfl⟩

theorem trimT_any (s : ByteArray) (w : World) (hs : s.size ≤ maxLen) :
    Calls Tryd.prog 40 #[.string s, .string ⟨#[32, 9]⟩] w fun e w' => e = .returned (.string (str (trimT s.data.toList))) ∧ Below w.heap.size w w' :=
  Any.strings_Trim_laid Tryd.lays160 (by kernel_rfl) s ⟨#[32, 9]⟩ w (by unfold maxLen at hs; omega) (by decide) (ascii_of_all (by decide))
theorem trimRightT_any (s : ByteArray) (w : World) (hs : s.size ≤ maxLen) :
    Calls Tryd.prog 43 #[.string s, .string ⟨#[32, 9]⟩] w fun e w' => e = .returned (.string (str (Lib.trimRightS s.data.toList [32, 9]))) ∧ Below w.heap.size w w' :=
  Any.strings_TrimRight_laid Tryd.lays162 (by kernel_rfl) s ⟨#[32, 9]⟩ w (by unfold maxLen at hs; omega) (by decide) (ascii_of_all (by decide))
set_option maxHeartbeats 1000000 in
theorem mayBeValue_any (s : ByteArray) (w : World) (hs : s.size ≤ 1048576) :
    Calls Tryd.prog 33 #[.string s] w fun e w' => e = .returned (.bool (valueB s.data.toList)) ∧ Below w.heap.size w w' := by
  have HA := hide (fun (w : World) => containsAny_any s ⟨#[13, 10]⟩ w (by decide) (by decide) hs (by decide))
  have HH : Hid (hasAny (⟨#[13, 10]⟩ : ByteArray).data.toList s.data.toList = crlfB s.data.toList) := hide rfl
  have hsm : s.size ≤ maxLen := by unfold maxLen; omega
  cases hc : crlfB s.data.toList with
  | true =>
    have HV : Hid (valueB s.data.toList = false) := hide (by unfold valueB; rw [hc]; rfl)
    have HC := hide hc
    clear hc
    go_enter Tryd.func33, Tryd.ntmps33
    go_wp2_with fail
    refine (HA.out _).mono ?_
    rintro e w1 ⟨rfl, hb1⟩
    rw [HH.out, HC.out]
    go_wp2_with fail
    go_ret
    exact ⟨ret_bool HV.out.symm, hb1⟩
  | false =>
    obtain ⟨X, hX⟩ : ∃ X, X = str (trimT s.data.toList) := ⟨_, rfl⟩
    have HX := hide hX
    have HV : Hid (valueB s.data.toList = (X.toList == s.toList)) := hide (by unfold valueB; rw [hc, hX, str_list, bytes_list]; rfl)
    have HC := hide hc
    clear hc hX
    obtain ⟨q, hq⟩ : ∃ q, q = (X.toList == s.toList) := ⟨_, rfl⟩
    rw [← hq] at HV
    cases q with
    | true =>
      have t0 : (X.toList == s.toList) = true := hq.symm
      clear hq
      go_enter Tryd.func33, Tryd.ntmps33
      go_wp2_with fail
      refine (HA.out _).mono ?_
      rintro e w1 ⟨rfl, hb1⟩
      rw [HH.out, HC.out]
      go_wp2_with fail
      refine (trimT_any s _ hsm).mono ?_
      rintro e w2 ⟨rfl, hb2⟩
      rw [← HX.out]
      go_wp2_with fail
      go_ret
      exact ⟨ret_bool (by first | exact HV.out.symm | (rw [HV.out]; simp)), hb1.trans (hb2.mono hb1.size)⟩
    | false =>
      have t0 : (X.toList == s.toList) = false := hq.symm
      clear hq
      go_enter Tryd.func33, Tryd.ntmps33
      go_wp2_with fail
      refine (HA.out _).mono ?_
      rintro e w1 ⟨rfl, hb1⟩
      rw [HH.out, HC.out]
      go_wp2_with fail
      refine (trimT_any s _ hsm).mono ?_
      rintro e w2 ⟨rfl, hb2⟩
      rw [← HX.out]
      go_wp2_with fail
      go_ret
      exact ⟨ret_bool (by first | exact HV.out.symm | (rw [HV.out]; simp)), hb1.trans (hb2.mono hb1.size)⟩

/-- what field answers -/
def fieldV : Option (List UInt8 × List UInt8) → Value
  | some f => .tuple #[.string (str f.1), .string (str f.2), .bool true]
  | none => .tuple #[.string ⟨#[]⟩, .string ⟨#[]⟩, .bool false]
set_option maxHeartbeats 1000000 in
theorem field_any (s : ByteArray) (w : World) (hs : s.size ≤ 70368744177664) :
    Calls Tryd.prog 25 #[.string s] w fun e w' => e = .returned (fieldV (fieldL s.data.toList)) ∧ Below w.heap.size w w' := by
  obtain ⟨X, hX⟩ : ∃ X, X = str (Lib.trimRightS (beforeC 58 s.data.toList) [32, 9]) := ⟨_, rfl⟩
  have HX := hide hX
  have HXL : Hid (X.data.toList = Lib.trimRightS (beforeC 58 s.data.toList) [32, 9]) := hide (by rw [hX, str_toList])
  have zb : (str (beforeC 58 s.data.toList)).size ≤ maxLen := by rw [str_size]; unfold maxLen; have := beforeC_le 58 s.data.toList; have := toList_length s; omega
  have ZB := hide zb
  have zX : X.size ≤ maxLen := by
    rw [hX, str_size]
    have h1 : (Lib.trimRightS (beforeC 58 s.data.toList) [32, 9]).length ≤ (beforeC 58 s.data.toList).length := by
      unfold Lib.trimRightS
      rw [List.length_reverse]
      have := (List.dropWhile_sublist (l := (beforeC 58 s.data.toList).reverse) fun c => [32, 9].contains c).length_le
      rw [List.length_reverse] at this; exact this
    rw [str_size] at zb; omega
  have ZX := hide zX
  clear hX zb zX
  cases hh : hasC 58 s.data.toList with
  | false =>
    have HV : Hid (fieldL s.data.toList = none) := hide (by unfold fieldL; rw [hh]; rfl)
    have HH := hide hh
    clear hh
    go_enter Tryd.func25, Tryd.ntmps25
    go_wp2_with fail
    refine (strCut_any s 58 _ hs).mono ?_
    rintro e w1 ⟨rfl, hb1⟩
    unfold cutV
    rw [HH.out]
    go_wp2_with fail
    refine (trimRightT_any _ _ ZB.out).mono ?_
    rintro e w2 ⟨rfl, hb2⟩
    rw [str_toList, ← HX.out]
    go_wp2_with fail
    go_ret3
    exact ⟨by rw [HV.out]; rfl, hb1.trans (hb2.mono hb1.size)⟩
  | true =>
    have HH := hide hh
    cases hn : nameB X.data.toList with
    | false =>
      have HV : Hid (fieldL s.data.toList = none) := hide (by unfold fieldL; rw [hh, ← HXL.out, hn]; rfl)
      have HN := hide hn
      clear hh hn
      go_enter Tryd.func25, Tryd.ntmps25
      go_wp2_with fail
      refine (strCut_any s 58 _ hs).mono ?_
      rintro e w1 ⟨rfl, hb1⟩
      unfold cutV
      rw [HH.out]
      go_wp2_with fail
      refine (trimRightT_any _ _ ZB.out).mono ?_
      rintro e w2 ⟨rfl, hb2⟩
      rw [str_toList, ← HX.out]
      go_wp2_with fail
      refine (mayBeName_any X _ ZX.out).mono ?_
      rintro e w3 ⟨rfl, rfl⟩
      rw [HN.out]
      go_wp2_with fail
      go_ret3
      exact ⟨by rw [HV.out]; rfl, hb1.trans (hb2.mono hb1.size)⟩
    | true =>
      have HV : Hid (fieldL s.data.toList = some (X.data.toList, afterC 58 s.data.toList)) := hide (by unfold fieldL; rw [hh, ← HXL.out, hn]; rfl)
      have HN := hide hn
      clear hh hn
      go_enter Tryd.func25, Tryd.ntmps25
      go_wp2_with fail
      refine (strCut_any s 58 _ hs).mono ?_
      rintro e w1 ⟨rfl, hb1⟩
      unfold cutV
      rw [HH.out]
      go_wp2_with fail
      refine (trimRightT_any _ _ ZB.out).mono ?_
      rintro e w2 ⟨rfl, hb2⟩
      rw [str_toList, ← HX.out]
      go_wp2_with fail
      refine (mayBeName_any X _ ZX.out).mono ?_
      rintro e w3 ⟨rfl, rfl⟩
      rw [HN.out]
      go_wp2_with fail
      go_ret3
      refine ⟨?_, hb1.trans (hb2.mono hb1.size)⟩
      rw [HV.out]
      show Ending.returned (.tuple #[.string X, .string (str (afterC 58 s.data.toList)), .bool true]) = Ending.returned (.tuple #[.string (str X.data.toList), .string (str (afterC 58 s.data.toList)), .bool true])
      rw [str_of]
end Go.Proofs.YtcndklegoadjcaaDoor
