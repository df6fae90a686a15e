/- More of the first texts of this claim in one: each with its own head. No statement is proved here. -/
import Derived.Test.YtmojckphfbcibaaGreatDoorBaseM
import Derived.Test.YtmojckphfbcibaaGreatDoorBaseN
import Derived.Deep.Cut
/- WALK of chars.Known. No statement is proved here. -/
namespace Go.Proofs.YtmojckphfbcibaaGreatDoor
open Go.RowKit
set_option linter.unusedVariables false
set_option linter.unusedSimpArgs false

set_option maxRecDepth 100000 in
set_option maxHeartbeats 4000000 in
theorem known_any (s : ByteArray) (w : World) (hs : s.size ≤ 70368744177664) :
    Calls Tryz.prog 141 #[.string s] w fun e w' => e = .returned (knownV (kindL s.data.toList)) ∧ Below w.heap.size w w' := by
  obtain ⟨x, hx⟩ : ∃ x, x = cleanL s.data.toList := ⟨_, rfl⟩
  obtain ⟨X, hX⟩ : ∃ X, X = str x := ⟨_, rfl⟩
  have HX : Hid (str (cleanL s.data.toList) = X) := hide (by rw [hX, hx])
  have hk : kindL s.data.toList = kindOf x := by rw [hx]; rfl
  rw [hk]
  have HXX := hide hX
  have HSZ : Hid ((str (Lib.trimS s.data.toList whiteSet)).size ≤ 70368744177664) := hide (by
    rw [str_size]
    have h := trimS_length s.data.toList whiteSet
    rw [toList_length] at h; omega)
  clear hx hX hk
  by_cases h0 : x = [117, 116, 102, 45, 56]
  · have HV : Hid (knownV (kindOf x) = .tuple #[.string ⟨#[117, 116, 102, 45, 56]⟩, .bool true]) := hide (by rw [h0, show kindOf [117, 116, 102, 45, 56] = 1 from by decide +kernel]; rfl)
    have t0 : (X.toList == [117, 116, 102, 45, 56]) = true := listT HXX.out h0
    clear h0
    go_enter Tryz.func141, Tryz.ntmps141
    go_wp2_with fail
    refine (trim_any s _ (by unfold maxLen; omega)).mono ?_
    rintro e w1 ⟨rfl, hb1⟩
    go_wp2_with fail
    refine (lower_any _ _ HSZ.out).mono ?_
    rintro e w2 ⟨rfl, hb2⟩
    rw [str_toList, show lowL (Lib.trimS s.data.toList whiteSet) = cleanL s.data.toList from rfl, HX.out]
    have hbb := hb1.trans (hb2.mono hb1.size)
    go_wp2_with fail
    go_ret2
    exact ⟨by rw [HV.out]; rfl, hbb⟩
  have t0 : (X.toList == [117, 116, 102, 45, 56]) = false := listF HXX.out h0
  by_cases h1 : x = [117, 116, 102, 56]
  · have HV : Hid (knownV (kindOf x) = .tuple #[.string ⟨#[117, 116, 102, 45, 56]⟩, .bool true]) := hide (by rw [h1, show kindOf [117, 116, 102, 56] = 1 from by decide +kernel]; rfl)
    have t1 : (X.toList == [117, 116, 102, 56]) = true := listT HXX.out h1
    clear h0 h1
    go_enter Tryz.func141, Tryz.ntmps141
    go_wp2_with fail
    refine (trim_any s _ (by unfold maxLen; omega)).mono ?_
    rintro e w1 ⟨rfl, hb1⟩
    go_wp2_with fail
    refine (lower_any _ _ HSZ.out).mono ?_
    rintro e w2 ⟨rfl, hb2⟩
    rw [str_toList, show lowL (Lib.trimS s.data.toList whiteSet) = cleanL s.data.toList from rfl, HX.out]
    have hbb := hb1.trans (hb2.mono hb1.size)
    go_wp2_with fail
    go_ret2
    exact ⟨by rw [HV.out]; rfl, hbb⟩
  have t1 : (X.toList == [117, 116, 102, 56]) = false := listF HXX.out h1
  by_cases h2 : x = [117, 110, 105, 99, 111, 100, 101, 45, 49, 45, 49, 45, 117, 116, 102, 45, 56]
  · have HV : Hid (knownV (kindOf x) = .tuple #[.string ⟨#[117, 116, 102, 45, 56]⟩, .bool true]) := hide (by rw [h2, show kindOf [117, 110, 105, 99, 111, 100, 101, 45, 49, 45, 49, 45, 117, 116, 102, 45, 56] = 1 from by decide +kernel]; rfl)
    have t2 : (X.toList == [117, 110, 105, 99, 111, 100, 101, 45, 49, 45, 49, 45, 117, 116, 102, 45, 56]) = true := listT HXX.out h2
    clear h0 h1 h2
    go_enter Tryz.func141, Tryz.ntmps141
    go_wp2_with fail
    refine (trim_any s _ (by unfold maxLen; omega)).mono ?_
    rintro e w1 ⟨rfl, hb1⟩
    go_wp2_with fail
    refine (lower_any _ _ HSZ.out).mono ?_
    rintro e w2 ⟨rfl, hb2⟩
    rw [str_toList, show lowL (Lib.trimS s.data.toList whiteSet) = cleanL s.data.toList from rfl, HX.out]
    have hbb := hb1.trans (hb2.mono hb1.size)
    go_wp2_with fail
    go_ret2
    exact ⟨by rw [HV.out]; rfl, hbb⟩
  have t2 : (X.toList == [117, 110, 105, 99, 111, 100, 101, 45, 49, 45, 49, 45, 117, 116, 102, 45, 56]) = false := listF HXX.out h2
  by_cases h3 : x = [119, 105, 110, 100, 111, 119, 115, 45, 49, 50, 53, 50]
  · have HV : Hid (knownV (kindOf x) = .tuple #[.string ⟨#[119, 105, 110, 100, 111, 119, 115, 45, 49, 50, 53, 50]⟩, .bool true]) := hide (by rw [h3, show kindOf [119, 105, 110, 100, 111, 119, 115, 45, 49, 50, 53, 50] = 2 from by decide +kernel]; rfl)
    have t3 : (X.toList == [119, 105, 110, 100, 111, 119, 115, 45, 49, 50, 53, 50]) = true := listT HXX.out h3
    clear h0 h1 h2 h3
    go_enter Tryz.func141, Tryz.ntmps141
    go_wp2_with fail
    refine (trim_any s _ (by unfold maxLen; omega)).mono ?_
    rintro e w1 ⟨rfl, hb1⟩
    go_wp2_with fail
    refine (lower_any _ _ HSZ.out).mono ?_
    rintro e w2 ⟨rfl, hb2⟩
    rw [str_toList, show lowL (Lib.trimS s.data.toList whiteSet) = cleanL s.data.toList from rfl, HX.out]
    have hbb := hb1.trans (hb2.mono hb1.size)
    go_wp2_with fail
    go_ret2
    exact ⟨by rw [HV.out]; rfl, hbb⟩
  have t3 : (X.toList == [119, 105, 110, 100, 111, 119, 115, 45, 49, 50, 53, 50]) = false := listF HXX.out h3
  by_cases h4 : x = [99, 112, 49, 50, 53, 50]
  · have HV : Hid (knownV (kindOf x) = .tuple #[.string ⟨#[119, 105, 110, 100, 111, 119, 115, 45, 49, 50, 53, 50]⟩, .bool true]) := hide (by rw [h4, show kindOf [99, 112, 49, 50, 53, 50] = 2 from by decide +kernel]; rfl)
    have t4 : (X.toList == [99, 112, 49, 50, 53, 50]) = true := listT HXX.out h4
    clear h0 h1 h2 h3 h4
    go_enter Tryz.func141, Tryz.ntmps141
    go_wp2_with fail
    refine (trim_any s _ (by unfold maxLen; omega)).mono ?_
    rintro e w1 ⟨rfl, hb1⟩
    go_wp2_with fail
    refine (lower_any _ _ HSZ.out).mono ?_
    rintro e w2 ⟨rfl, hb2⟩
    rw [str_toList, show lowL (Lib.trimS s.data.toList whiteSet) = cleanL s.data.toList from rfl, HX.out]
    have hbb := hb1.trans (hb2.mono hb1.size)
    go_wp2_with fail
    go_ret2
    exact ⟨by rw [HV.out]; rfl, hbb⟩
  have t4 : (X.toList == [99, 112, 49, 50, 53, 50]) = false := listF HXX.out h4
  by_cases h5 : x = [117, 115, 45, 97, 115, 99, 105, 105]
  · have HV : Hid (knownV (kindOf x) = .tuple #[.string ⟨#[119, 105, 110, 100, 111, 119, 115, 45, 49, 50, 53, 50]⟩, .bool true]) := hide (by rw [h5, show kindOf [117, 115, 45, 97, 115, 99, 105, 105] = 2 from by decide +kernel]; rfl)
    have t5 : (X.toList == [117, 115, 45, 97, 115, 99, 105, 105]) = true := listT HXX.out h5
    clear h0 h1 h2 h3 h4 h5
    go_enter Tryz.func141, Tryz.ntmps141
    go_wp2_with fail
    refine (trim_any s _ (by unfold maxLen; omega)).mono ?_
    rintro e w1 ⟨rfl, hb1⟩
    go_wp2_with fail
    refine (lower_any _ _ HSZ.out).mono ?_
    rintro e w2 ⟨rfl, hb2⟩
    rw [str_toList, show lowL (Lib.trimS s.data.toList whiteSet) = cleanL s.data.toList from rfl, HX.out]
    have hbb := hb1.trans (hb2.mono hb1.size)
    go_wp2_with fail
    go_ret2
    exact ⟨by rw [HV.out]; rfl, hbb⟩
  have t5 : (X.toList == [117, 115, 45, 97, 115, 99, 105, 105]) = false := listF HXX.out h5
  by_cases h6 : x = [97, 115, 99, 105, 105]
  · have HV : Hid (knownV (kindOf x) = .tuple #[.string ⟨#[119, 105, 110, 100, 111, 119, 115, 45, 49, 50, 53, 50]⟩, .bool true]) := hide (by rw [h6, show kindOf [97, 115, 99, 105, 105] = 2 from by decide +kernel]; rfl)
    have t6 : (X.toList == [97, 115, 99, 105, 105]) = true := listT HXX.out h6
    clear h0 h1 h2 h3 h4 h5 h6
    go_enter Tryz.func141, Tryz.ntmps141
    go_wp2_with fail
    refine (trim_any s _ (by unfold maxLen; omega)).mono ?_
    rintro e w1 ⟨rfl, hb1⟩
    go_wp2_with fail
    refine (lower_any _ _ HSZ.out).mono ?_
    rintro e w2 ⟨rfl, hb2⟩
    rw [str_toList, show lowL (Lib.trimS s.data.toList whiteSet) = cleanL s.data.toList from rfl, HX.out]
    have hbb := hb1.trans (hb2.mono hb1.size)
    go_wp2_with fail
    go_ret2
    exact ⟨by rw [HV.out]; rfl, hbb⟩
  have t6 : (X.toList == [97, 115, 99, 105, 105]) = false := listF HXX.out h6
  by_cases h7 : x = [105, 115, 111, 45, 56, 56, 53, 57, 45, 49]
  · have HV : Hid (knownV (kindOf x) = .tuple #[.string ⟨#[119, 105, 110, 100, 111, 119, 115, 45, 49, 50, 53, 50]⟩, .bool true]) := hide (by rw [h7, show kindOf [105, 115, 111, 45, 56, 56, 53, 57, 45, 49] = 2 from by decide +kernel]; rfl)
    have t7 : (X.toList == [105, 115, 111, 45, 56, 56, 53, 57, 45, 49]) = true := listT HXX.out h7
    clear h0 h1 h2 h3 h4 h5 h6 h7
    go_enter Tryz.func141, Tryz.ntmps141
    go_wp2_with fail
    refine (trim_any s _ (by unfold maxLen; omega)).mono ?_
    rintro e w1 ⟨rfl, hb1⟩
    go_wp2_with fail
    refine (lower_any _ _ HSZ.out).mono ?_
    rintro e w2 ⟨rfl, hb2⟩
    rw [str_toList, show lowL (Lib.trimS s.data.toList whiteSet) = cleanL s.data.toList from rfl, HX.out]
    have hbb := hb1.trans (hb2.mono hb1.size)
    go_wp2_with fail
    go_ret2
    exact ⟨by rw [HV.out]; rfl, hbb⟩
  have t7 : (X.toList == [105, 115, 111, 45, 56, 56, 53, 57, 45, 49]) = false := listF HXX.out h7
  by_cases h8 : x = [105, 115, 111, 56, 56, 53, 57, 45, 49]
  · have HV : Hid (knownV (kindOf x) = .tuple #[.string ⟨#[119, 105, 110, 100, 111, 119, 115, 45, 49, 50, 53, 50]⟩, .bool true]) := hide (by rw [h8, show kindOf [105, 115, 111, 56, 56, 53, 57, 45, 49] = 2 from by decide +kernel]; rfl)
    have t8 : (X.toList == [105, 115, 111, 56, 56, 53, 57, 45, 49]) = true := listT HXX.out h8
    clear h0 h1 h2 h3 h4 h5 h6 h7 h8
    go_enter Tryz.func141, Tryz.ntmps141
    go_wp2_with fail
    refine (trim_any s _ (by unfold maxLen; omega)).mono ?_
    rintro e w1 ⟨rfl, hb1⟩
    go_wp2_with fail
    refine (lower_any _ _ HSZ.out).mono ?_
    rintro e w2 ⟨rfl, hb2⟩
    rw [str_toList, show lowL (Lib.trimS s.data.toList whiteSet) = cleanL s.data.toList from rfl, HX.out]
    have hbb := hb1.trans (hb2.mono hb1.size)
    go_wp2_with fail
    go_ret2
    exact ⟨by rw [HV.out]; rfl, hbb⟩
  have t8 : (X.toList == [105, 115, 111, 56, 56, 53, 57, 45, 49]) = false := listF HXX.out h8
  by_cases h9 : x = [108, 97, 116, 105, 110, 49]
  · have HV : Hid (knownV (kindOf x) = .tuple #[.string ⟨#[119, 105, 110, 100, 111, 119, 115, 45, 49, 50, 53, 50]⟩, .bool true]) := hide (by rw [h9, show kindOf [108, 97, 116, 105, 110, 49] = 2 from by decide +kernel]; rfl)
    have t9 : (X.toList == [108, 97, 116, 105, 110, 49]) = true := listT HXX.out h9
    clear h0 h1 h2 h3 h4 h5 h6 h7 h8 h9
    go_enter Tryz.func141, Tryz.ntmps141
    go_wp2_with fail
    refine (trim_any s _ (by unfold maxLen; omega)).mono ?_
    rintro e w1 ⟨rfl, hb1⟩
    go_wp2_with fail
    refine (lower_any _ _ HSZ.out).mono ?_
    rintro e w2 ⟨rfl, hb2⟩
    rw [str_toList, show lowL (Lib.trimS s.data.toList whiteSet) = cleanL s.data.toList from rfl, HX.out]
    have hbb := hb1.trans (hb2.mono hb1.size)
    go_wp2_with fail
    go_ret2
    exact ⟨by rw [HV.out]; rfl, hbb⟩
  have t9 : (X.toList == [108, 97, 116, 105, 110, 49]) = false := listF HXX.out h9
  by_cases h10 : x = [108, 49]
  · have HV : Hid (knownV (kindOf x) = .tuple #[.string ⟨#[119, 105, 110, 100, 111, 119, 115, 45, 49, 50, 53, 50]⟩, .bool true]) := hide (by rw [h10, show kindOf [108, 49] = 2 from by decide +kernel]; rfl)
    have t10 : (X.toList == [108, 49]) = true := listT HXX.out h10
    clear h0 h1 h2 h3 h4 h5 h6 h7 h8 h9 h10
    go_enter Tryz.func141, Tryz.ntmps141
    go_wp2_with fail
    refine (trim_any s _ (by unfold maxLen; omega)).mono ?_
    rintro e w1 ⟨rfl, hb1⟩
    go_wp2_with fail
    refine (lower_any _ _ HSZ.out).mono ?_
    rintro e w2 ⟨rfl, hb2⟩
    rw [str_toList, show lowL (Lib.trimS s.data.toList whiteSet) = cleanL s.data.toList from rfl, HX.out]
    have hbb := hb1.trans (hb2.mono hb1.size)
    go_wp2_with fail
    go_ret2
    exact ⟨by rw [HV.out]; rfl, hbb⟩
  have t10 : (X.toList == [108, 49]) = false := listF HXX.out h10
  by_cases h11 : x = [117, 116, 102, 45, 49, 54, 108, 101]
  · have HV : Hid (knownV (kindOf x) = .tuple #[.string ⟨#[117, 116, 102, 45, 49, 54, 108, 101]⟩, .bool true]) := hide (by rw [h11, show kindOf [117, 116, 102, 45, 49, 54, 108, 101] = 3 from by decide +kernel]; rfl)
    have t11 : (X.toList == [117, 116, 102, 45, 49, 54, 108, 101]) = true := listT HXX.out h11
    clear h0 h1 h2 h3 h4 h5 h6 h7 h8 h9 h10 h11
    go_enter Tryz.func141, Tryz.ntmps141
    go_wp2_with fail
    refine (trim_any s _ (by unfold maxLen; omega)).mono ?_
    rintro e w1 ⟨rfl, hb1⟩
    go_wp2_with fail
    refine (lower_any _ _ HSZ.out).mono ?_
    rintro e w2 ⟨rfl, hb2⟩
    rw [str_toList, show lowL (Lib.trimS s.data.toList whiteSet) = cleanL s.data.toList from rfl, HX.out]
    have hbb := hb1.trans (hb2.mono hb1.size)
    go_wp2_with fail
    go_ret2
    exact ⟨by rw [HV.out]; rfl, hbb⟩
  have t11 : (X.toList == [117, 116, 102, 45, 49, 54, 108, 101]) = false := listF HXX.out h11
  by_cases h12 : x = [117, 116, 102, 45, 49, 54]
  · have HV : Hid (knownV (kindOf x) = .tuple #[.string ⟨#[117, 116, 102, 45, 49, 54, 108, 101]⟩, .bool true]) := hide (by rw [h12, show kindOf [117, 116, 102, 45, 49, 54] = 3 from by decide +kernel]; rfl)
    have t12 : (X.toList == [117, 116, 102, 45, 49, 54]) = true := listT HXX.out h12
    clear h0 h1 h2 h3 h4 h5 h6 h7 h8 h9 h10 h11 h12
    go_enter Tryz.func141, Tryz.ntmps141
    go_wp2_with fail
    refine (trim_any s _ (by unfold maxLen; omega)).mono ?_
    rintro e w1 ⟨rfl, hb1⟩
    go_wp2_with fail
    refine (lower_any _ _ HSZ.out).mono ?_
    rintro e w2 ⟨rfl, hb2⟩
    rw [str_toList, show lowL (Lib.trimS s.data.toList whiteSet) = cleanL s.data.toList from rfl, HX.out]
    have hbb := hb1.trans (hb2.mono hb1.size)
    go_wp2_with fail
    go_ret2
    exact ⟨by rw [HV.out]; rfl, hbb⟩
  have t12 : (X.toList == [117, 116, 102, 45, 49, 54]) = false := listF HXX.out h12
  by_cases h13 : x = [117, 110, 105, 99, 111, 100, 101]
  · have HV : Hid (knownV (kindOf x) = .tuple #[.string ⟨#[117, 116, 102, 45, 49, 54, 108, 101]⟩, .bool true]) := hide (by rw [h13, show kindOf [117, 110, 105, 99, 111, 100, 101] = 3 from by decide +kernel]; rfl)
    have t13 : (X.toList == [117, 110, 105, 99, 111, 100, 101]) = true := listT HXX.out h13
    clear h0 h1 h2 h3 h4 h5 h6 h7 h8 h9 h10 h11 h12 h13
    go_enter Tryz.func141, Tryz.ntmps141
    go_wp2_with fail
    refine (trim_any s _ (by unfold maxLen; omega)).mono ?_
    rintro e w1 ⟨rfl, hb1⟩
    go_wp2_with fail
    refine (lower_any _ _ HSZ.out).mono ?_
    rintro e w2 ⟨rfl, hb2⟩
    rw [str_toList, show lowL (Lib.trimS s.data.toList whiteSet) = cleanL s.data.toList from rfl, HX.out]
    have hbb := hb1.trans (hb2.mono hb1.size)
    go_wp2_with fail
    go_ret2
    exact ⟨by rw [HV.out]; rfl, hbb⟩
  have t13 : (X.toList == [117, 110, 105, 99, 111, 100, 101]) = false := listF HXX.out h13
  by_cases h14 : x = [117, 99, 115, 45, 50]
  · have HV : Hid (knownV (kindOf x) = .tuple #[.string ⟨#[117, 116, 102, 45, 49, 54, 108, 101]⟩, .bool true]) := hide (by rw [h14, show kindOf [117, 99, 115, 45, 50] = 3 from by decide +kernel]; rfl)
    have t14 : (X.toList == [117, 99, 115, 45, 50]) = true := listT HXX.out h14
    clear h0 h1 h2 h3 h4 h5 h6 h7 h8 h9 h10 h11 h12 h13 h14
    go_enter Tryz.func141, Tryz.ntmps141
    go_wp2_with fail
    refine (trim_any s _ (by unfold maxLen; omega)).mono ?_
    rintro e w1 ⟨rfl, hb1⟩
    go_wp2_with fail
    refine (lower_any _ _ HSZ.out).mono ?_
    rintro e w2 ⟨rfl, hb2⟩
    rw [str_toList, show lowL (Lib.trimS s.data.toList whiteSet) = cleanL s.data.toList from rfl, HX.out]
    have hbb := hb1.trans (hb2.mono hb1.size)
    go_wp2_with fail
    go_ret2
    exact ⟨by rw [HV.out]; rfl, hbb⟩
  have t14 : (X.toList == [117, 99, 115, 45, 50]) = false := listF HXX.out h14
  by_cases h15 : x = [117, 116, 102, 45, 49, 54, 98, 101]
  · have HV : Hid (knownV (kindOf x) = .tuple #[.string ⟨#[117, 116, 102, 45, 49, 54, 98, 101]⟩, .bool true]) := hide (by rw [h15, show kindOf [117, 116, 102, 45, 49, 54, 98, 101] = 4 from by decide +kernel]; rfl)
    have t15 : (X.toList == [117, 116, 102, 45, 49, 54, 98, 101]) = true := listT HXX.out h15
    clear h0 h1 h2 h3 h4 h5 h6 h7 h8 h9 h10 h11 h12 h13 h14 h15
    go_enter Tryz.func141, Tryz.ntmps141
    go_wp2_with fail
    refine (trim_any s _ (by unfold maxLen; omega)).mono ?_
    rintro e w1 ⟨rfl, hb1⟩
    go_wp2_with fail
    refine (lower_any _ _ HSZ.out).mono ?_
    rintro e w2 ⟨rfl, hb2⟩
    rw [str_toList, show lowL (Lib.trimS s.data.toList whiteSet) = cleanL s.data.toList from rfl, HX.out]
    have hbb := hb1.trans (hb2.mono hb1.size)
    go_wp2_with fail
    go_ret2
    exact ⟨by rw [HV.out]; rfl, hbb⟩
  have t15 : (X.toList == [117, 116, 102, 45, 49, 54, 98, 101]) = false := listF HXX.out h15
  by_cases h16 : x = [117, 110, 105, 99, 111, 100, 101, 102, 102, 102, 101]
  · have HV : Hid (knownV (kindOf x) = .tuple #[.string ⟨#[117, 116, 102, 45, 49, 54, 98, 101]⟩, .bool true]) := hide (by rw [h16, show kindOf [117, 110, 105, 99, 111, 100, 101, 102, 102, 102, 101] = 4 from by decide +kernel]; rfl)
    have t16 : (X.toList == [117, 110, 105, 99, 111, 100, 101, 102, 102, 102, 101]) = true := listT HXX.out h16
    clear h0 h1 h2 h3 h4 h5 h6 h7 h8 h9 h10 h11 h12 h13 h14 h15 h16
    go_enter Tryz.func141, Tryz.ntmps141
    go_wp2_with fail
    refine (trim_any s _ (by unfold maxLen; omega)).mono ?_
    rintro e w1 ⟨rfl, hb1⟩
    go_wp2_with fail
    refine (lower_any _ _ HSZ.out).mono ?_
    rintro e w2 ⟨rfl, hb2⟩
    rw [str_toList, show lowL (Lib.trimS s.data.toList whiteSet) = cleanL s.data.toList from rfl, HX.out]
    have hbb := hb1.trans (hb2.mono hb1.size)
    go_wp2_with fail
    go_ret2
    exact ⟨by rw [HV.out]; rfl, hbb⟩
  have t16 : (X.toList == [117, 110, 105, 99, 111, 100, 101, 102, 102, 102, 101]) = false := listF HXX.out h16
  have HV : Hid (knownV (kindOf x) = .tuple #[.string ⟨#[]⟩, .bool false]) := hide (by
    rw [kind_none (x := x) (by
      intro y hy
      simp only [labels, List.mem_cons, List.mem_nil_iff, or_false] at hy
      rcases hy with rfl | rfl | rfl | rfl | rfl | rfl | rfl | rfl | rfl | rfl | rfl | rfl | rfl | rfl | rfl | rfl | rfl
      all_goals assumption)]
    rfl)
  clear h0 h1 h2 h3 h4 h5 h6 h7 h8 h9 h10 h11 h12 h13 h14 h15 h16
  go_enter Tryz.func141, Tryz.ntmps141
  go_wp2_with fail
  refine (trim_any s _ (by unfold maxLen; omega)).mono ?_
  rintro e w1 ⟨rfl, hb1⟩
  go_wp2_with fail
  refine (lower_any _ _ HSZ.out).mono ?_
  rintro e w2 ⟨rfl, hb2⟩
  rw [str_toList, show lowL (Lib.trimS s.data.toList whiteSet) = cleanL s.data.toList from rfl, HX.out]
  have hbb := hb1.trans (hb2.mono hb1.size)
  go_wp2_with fail
  go_ret2
  exact ⟨by rw [HV.out]; rfl, hbb⟩
end Go.Proofs.YtmojckphfbcibaaGreatDoor

/- WALKS of chars.Valid, fromWindows, number, firstSign, fromPairs. No statement is proved here. -/
namespace Go.Proofs.YtmojckphfbcibaaGreatDoor
open Go.RowKit
set_option linter.unusedVariables false
set_option linter.unusedSimpArgs false

set_option maxHeartbeats 1000000 in
theorem valid_any (s : ByteArray) (w : World) (hs : s.size ≤ 1048576) :
    Calls Tryz.prog 144 #[.string s] w fun e w' => e = .returned (.string (str (validL s.data.toList))) ∧ Below w.heap.size w w' := by
  go_enter Tryz.func144, Tryz.ntmps144
  go_wp2_with (refine wpList_buf_make rfl _ _ rfl w.heap.size w (Below.refl _ _) (Nat.le_refl _) s.size s.size rfl rfl rfl (by omega) ?_; intro v0 w0 hb0)
  have hbz := hb0.2.2
  have hit : (w0.iter s 0).heap[w0.heap.size]? = some (Obj.stringIter s 0) := heap_alloc_new w0 _
  go_loopw [3] (fun v wr => ∃ (pos : Nat) (acc : List UInt8), pos ≤ s.size ∧ wr.heap[w0.heap.size]? = some (Obj.stringIter s pos) ∧ Buf w.heap.size v acc w wr ∧ acc.length ≤ 3 * pos ∧ acc ++ validL (s.data.toList.drop pos) = validL s.data.toList) (fun _ wr => s.size - wr.iterPos w0.heap.size)
  case atStart => exact ⟨0, [], Nat.zero_le _, hit, hb0.alloc _, Nat.le_refl _, by simp⟩
  case round =>
    obtain ⟨pos, acc, hpos, hk, hb, hacc, hd⟩ := hrel
    have HB := hide hb
    have HK := hide hk
    clear hb hk
    by_cases hlt : pos < s.size
    · have hnx := fun ty => Lib.run_next_any_at (P := Tryz.prog) wr w0.heap.size s pos ty HK.out hlt
      have hne : s.data.toList.drop pos ≠ [] := by rw [drop_cons s pos hlt]; simp
      have hsp := decL_spec _ hne
      have hst := vStep_pos' _ hne
      have hR := valid_round hd hne
      rw [List.drop_drop] at hR
      rw [decode_decL s pos hlt] at hnx
      rw [List.length_drop, toList_length] at hst
      generalize decL (s.data.toList.drop pos) = dl at hnx hsp
      obtain ⟨r, n⟩ := dl
      simp only at hsp hnx
      rw [← hsp.1, ← hsp.2.1] at hR
      rw [← hsp.1, ← hsp.2.1] at hst
      have hr := hsp.2.2
      clear hsp
      obtain ⟨hn1, hn2, hn3, hn4⟩ := hst
      have HR := hide hR
      have HI := hide (Lib.iterAt_heap wr w0.heap.size s pos (pos + n) HK.out)
      have HB1 := hide (HB.out.iterAt HK.out (by omega) (pos + n))
      clear hR hd hne
      go_wp2_with fail
      refine (appendRune_any w.heap.size u3 acc w _ HB1.out (r : Int) (by omega) (by omega) (by omega)).mono ?_
      rintro e w1 ⟨v1, rfl, hb1, hi1⟩
      have HB2 := hide hb1
      have HI2 := hide (hi1 _ _ _ HI.out)
      clear hb1 hi1
      go_wp2_with fail
      go_roundw
      case rel => exact ⟨pos + n, acc ++ _, by omega, HI2.out, HB2.out, by rw [List.length_append]; omega, HR.out⟩
      case measure =>
        have e1 : World.iterPos w1 w0.heap.size = pos + n := by unfold World.iterPos; rw [HI2.out]
        have e2 : World.iterPos wr w0.heap.size = pos := by unfold World.iterPos; rw [HK.out]
        rw [e1, e2]; omega
    · have hnx := fun ty => Lib.run_next_end_at (P := Tryz.prog) wr w0.heap.size s pos ty HK.out hlt
      have hcv := HB.out.convert
      go_wp2
      go_ret
      refine ⟨?_, HB.out.below⟩
      rw [drop_nil s pos (by omega), validL_nil, List.append_nil] at hd
      exact ret_str (by rw [hd])

/-- the table in memory -/
def Tab (w : World) : Prop := ∀ j : Nat, j < 32 → w.cell? ⟨3, j, none⟩ = some (.int .i32 (winTab.getD j 0))
theorem Tab.lt {w : World} (h : Tab w) : 3 < w.heap.size := by
  have := h 0 (by omega)
  rcases Nat.lt_or_ge 3 w.heap.size with h1 | h1
  · exact h1
  · unfold World.cell? at this
    rw [Array.getElem?_eq_none h1] at this; cases this
theorem Tab.below {B : Nat} {w w' : World} (h : Tab w) (hb : Below B w w') (hB : 3 < B) : Tab w' := fun j hj => by
  rw [← h j hj]
  exact hb.cell (by exact hB)

set_option maxHeartbeats 1000000 in
theorem fromWindows_any (s : ByteArray) (w : World) (hs : s.size ≤ 1048576) (hT : Tab w) :
    Calls Tryz.prog 142 #[.string s] w fun e w' => e = .returned (.string (str (winL s.data.toList))) ∧ Below w.heap.size w w' := by
  have HT := hide hT
  have h0 := hT.lt
  clear hT
  go_enter Tryz.func142, Tryz.ntmps142
  go_wp2_with (refine wpList_buf_make rfl _ _ rfl w.heap.size w (Below.refl _ _) (Nat.le_refl _) s.size s.size rfl rfl rfl (by omega) ?_; intro v0 w0 hb0)
  go_loopw [3, 12] (fun v i wr => ∃ (k : Nat) (acc : List UInt8), k ≤ s.size ∧ i = .int .i64 k ∧ Buf w.heap.size v acc w wr ∧ acc.length ≤ 3 * k ∧ acc ++ winL (s.data.toList.drop k) = winL s.data.toList) (fun _ i _ => s.size - (intOf i).toNat)
  case atStart => exact ⟨0, [], Nat.zero_le _, rfl, hb0, Nat.le_refl _, by simp⟩
  case round =>
    obtain ⟨k, acc, hk, rfl, hb, hacc, hd⟩ := hrel
    have HB := hide hb
    clear hb
    by_cases hlt : k < s.size
    · rw [drop_cons s k hlt, winL_cons, ← List.append_assoc] at hd
      have HR := hide hd
      have hcase := winR_case s[k]
      have hl3 := winR_length s[k]
      have hrg := winR_range s[k]
      have hbl := byte_lt s[k]
      generalize hc : s[k] = c at hd hcase hl3 hrg hbl
      rw [hc] at HR
      clear hd
      rcases hcase with ⟨c1, e⟩ | ⟨c1, c2, e⟩ | ⟨c1, e⟩
      · rw [e] at HR hl3
        clear e
        go_wp2_with fail
        refine (appendRune_any w.heap.size u3 acc w wr HB.out c.toNat (by omega) (by omega) (by omega)).mono ?_
        rintro e w1 ⟨v1, rfl, hb1, _⟩
        have HB1 := hide hb1
        clear hb1
        go_wp2_with fail
        go_roundw
        case rel => exact ⟨k + 1, acc ++ _, by omega, by go_num, HB1.out, by rw [List.length_append]; omega, HR.out⟩
        case measure => simp [intOf]; omega
      · have hcell := (HT.out.below HB.out.below h0) (c.toNat - 128) (by omega)
        rw [← e] at hcell
        have q1 : ((c.toNat : Int) - 128).toNat = c.toNat - 128 := by omega
        generalize winR c = rr at HR hl3 hrg hcell e
        clear e
        go_wp2_with fail
        refine (appendRune_any w.heap.size u3 acc w wr HB.out rr (by omega) (by omega) (by omega)).mono ?_
        rintro e w1 ⟨v1, rfl, hb1, _⟩
        have HB1 := hide hb1
        clear hb1
        go_wp2_with fail
        go_roundw
        case rel => exact ⟨k + 1, acc ++ _, by omega, by go_num, HB1.out, by rw [List.length_append]; omega, HR.out⟩
        case measure => simp [intOf]; omega
      · rw [e] at HR hl3
        clear e
        go_wp2_with fail
        refine (appendRune_any w.heap.size u3 acc w wr HB.out c.toNat (by omega) (by omega) (by omega)).mono ?_
        rintro e w1 ⟨v1, rfl, hb1, _⟩
        have HB1 := hide hb1
        clear hb1
        go_wp2_with fail
        go_roundw
        case rel => exact ⟨k + 1, acc ++ _, by omega, by go_num, HB1.out, by rw [List.length_append]; omega, HR.out⟩
        case measure => simp [intOf]; omega
    · have hcv := HB.out.convert
      go_wp2
      go_ret
      refine ⟨?_, HB.out.below⟩
      rw [drop_nil s k (by omega)] at hd
      rw [show winL [] = [] from rfl, List.append_nil] at hd
      exact ret_str (by rw [hd])
end Go.Proofs.YtmojckphfbcibaaGreatDoor

/- WALKS of chars.number, firstSign, fromPairs. No statement is proved here. -/
namespace Go.Proofs.YtmojckphfbcibaaGreatDoor
open Go.RowKit
set_option linter.unusedVariables false
set_option linter.unusedSimpArgs false

theorem or_bytes (a b : Nat) (ha : a < 256) (hb : b < 256) : bits .or .i32 ((a : Int) * 256) (b : Int) = ((256 * a + b : Nat) : Int) := by
  have h1 : (BitVec.ofInt 32 ((a : Int) * 256)).toNat = a * 256 := by
    rw [show (a : Int) * 256 = ((a * 256 : Nat) : Int) from by omega, BitVec.ofInt_natCast, BitVec.toNat_ofNat]; exact Nat.mod_eq_of_lt (by omega)
  have h2 : (BitVec.ofInt 32 (b : Int)).toNat = b := by
    rw [BitVec.ofInt_natCast, BitVec.toNat_ofNat]; exact Nat.mod_eq_of_lt (by omega)
  show IntKind.i32.wrap ((BitVec.ofInt 32 ((a : Int) * 256) ||| BitVec.ofInt 32 (b : Int)).toNat : Int) = _
  rw [BitVec.toNat_or, h1, h2]
  have e : a * 256 ||| b = 256 * a + b := by
    have := Nat.two_pow_add_eq_or_of_lt (i := 8) (b := b) (by omega) a
    rw [Nat.mul_comm a 256]
    exact this.symm
  rw [e]
  exact IntWalk.i32_in _ (by omega)

/-- the place of the higher byte -/
def hiAt (big : Bool) : Int := if big then 0 else 1
set_option maxHeartbeats 1000000 in
theorem number_any (s : ByteArray) (big : Bool) (w : World) (hs : s.size ≤ maxLen) (h2 : 1 < s.size) :
    Calls Tryz.prog 182 #[.string s, .int .i64 (hiAt big)] w fun e w' => e = .returned (.int .i32 (num big s[0] s[1])) ∧ Below w.heap.size w w' := by
  unfold maxLen at hs
  have ha := byte_lt s[0]
  have hb := byte_lt s[1]
  have i0 : (0 : Int) < s.size := by omega
  have i1 : (1 : Int) < s.size := by omega
  have n0 : 0 < s.size := by omega
  cases big
  · have ho := or_bytes s[1].toNat s[0].toNat hb ha
    show Calls _ _ #[.string s, .int .i64 1] _ _
    go_enter Tryz.func182, Tryz.ntmps182
    go_wp2_with fail
    go_region
    all_goals (try go_wp2)
    all_goals
      go_ret
      exact ⟨ret_int (by unfold num; simp), (Below.refl _ _).drew⟩
  · have ho := or_bytes s[0].toNat s[1].toNat ha hb
    show Calls _ _ #[.string s, .int .i64 0] _ _
    go_enter Tryz.func182, Tryz.ntmps182
    go_wp2_with fail
    go_region
    all_goals (try go_wp2)
    all_goals
      go_ret
      exact ⟨ret_int (by unfold num; simp), (Below.refl _ _).drew⟩
theorem number_list (s : ByteArray) (big : Bool) (a b : UInt8) (r : List UInt8) (w : World) (hs : s.size ≤ maxLen) (h : s.data.toList = a :: b :: r) :
    Calls Tryz.prog 182 #[.string s, .int .i64 (hiAt big)] w fun e w' => e = .returned (.int .i32 (num big a b)) ∧ Below w.heap.size w w' := by
  have hl := toList_length s
  rw [h] at hl
  simp only [List.length_cons] at hl
  have h1 : 1 < s.size := by omega
  have e := drop_cons s 0 (by omega)
  rw [List.drop_zero, drop_cons s 1 h1, h] at e
  injection e with e1 e
  injection e with e2 e
  have := number_any s big w hs h1
  rw [← e1, ← e2] at this
  exact this

/-- what firstSign answers -/
def fsV (big : Bool) (l : List UInt8) : Value := .tuple #[.int .i32 (fsS big l).1, .int .i64 (fsS big l).2]
theorem fsV_of {big : Bool} {l : List UInt8} {z : Int} {n : Nat} (h : fsS big l = (z, n)) : fsV big l = .tuple #[.int .i32 z, .int .i64 n] := by unfold fsV; rw [h]
set_option maxRecDepth 100000 in
set_option maxHeartbeats 2000000 in
theorem firstSign_any (s : ByteArray) (big : Bool) (w : World) (hs : s.size ≤ maxLen) (h2 : 1 < s.size) :
    Calls Tryz.prog 166 #[.string s, .int .i64 (hiAt big)] w fun e w' => e = .returned (fsV big s.data.toList) ∧ Below w.heap.size w w' := by
  have hs' := hs
  unfold maxLen at hs
  obtain ⟨a, b, r, hl⟩ : ∃ a b r, s.data.toList = a :: b :: r := by
    have e := drop_cons s 0 (by omega)
    rw [List.drop_zero, drop_cons s 1 h2] at e
    exact ⟨_, _, _, e⟩
  have hlen := toList_length s
  rw [hl] at hlen
  simp only [List.length_cons] at hlen
  have HN := hide (fun (w : World) => number_list s big a b r w hs' hl)
  have hlt := num_lt big a b
  obtain ⟨x, hx⟩ : ∃ x, x = num big a b := ⟨_, rfl⟩
  rw [hl]
  have hi : ∃ z, z = hiAt big := ⟨_, rfl⟩
  obtain ⟨z, hz⟩ := hi
  rw [← hz]
  have HZ := hide hz
  rw [← hz, ← hx] at HN
  rw [← hx] at hlt
  have HX := hide hx
  clear hx hz
  by_cases c1 : x < 55296
  · have HV := hide (fsV_of (big := big) (l := a :: b :: r) (z := x) (n := 2) (by rw [fsS, ← HX.out, if_pos (.inl c1)]))
    clear hlen
    go_enter Tryz.func166, Tryz.ntmps166
    go_wp2_with fail
    refine (HN.out _).mono ?_
    rintro e w1 ⟨rfl, hb1⟩
    go_wp2_with fail
    go_ret2
    exact ⟨by rw [HV.out]; rfl, hb1⟩
  by_cases c2 : 57344 ≤ x
  · have HV := hide (fsV_of (big := big) (l := a :: b :: r) (z := x) (n := 2) (by rw [fsS, ← HX.out, if_pos (.inr c2)]))
    clear hlen
    go_enter Tryz.func166, Tryz.ntmps166
    go_wp2_with fail
    refine (HN.out _).mono ?_
    rintro e w1 ⟨rfl, hb1⟩
    go_wp2_with fail
    go_ret2
    exact ⟨by rw [HV.out]; rfl, hb1⟩
  have c12 : ¬ (x < 55296 ∨ 57344 ≤ x) := by omega
  have t1 : decide ((x : Int) < 55296) = false := decide_eq_false (by omega)
  have t2 : decide ((57344 : Int) ≤ x) = false := decide_eq_false (by omega)
  have C12 := hide c12
  have K1 : Hid (55296 ≤ x) := hide (by omega)
  clear c12 c1 c2
  by_cases c3 : x < 56320
  · have t3 : decide ((x : Int) < 56320) = true := decide_eq_true (by omega)
    have C3 := hide c3
    clear c3
    by_cases c4 : 3 < s.size
    · have t4 : decide ((3 : Int) < s.size) = true := decide_eq_true (by omega)
      have s2 : (2 : Int) ≤ s.size := by omega
      obtain ⟨c, d, r', hr⟩ : ∃ c d r', r = c :: d :: r' := by
        match r, hlen with
        | c :: d :: r', _ => exact ⟨c, d, r', rfl⟩
        | [c], h => simp at h; omega
        | [], h => simp at h; omega
      subst hr
      have hx2 : (s.extract 2 s.size).data.toList = c :: d :: r' := by rw [extract_end, hl]; rfl
      have HN2 := hide (fun (w : World) => number_list (s.extract 2 s.size) big c d r' w (by have := extract_size_le s 2 s.size; unfold maxLen; omega) hx2)
      have hlt2 := num_lt big c d
      obtain ⟨y, hy⟩ : ∃ y, y = num big c d := ⟨_, rfl⟩
      rw [← HZ.out, ← hy] at HN2
      rw [← hy] at hlt2
      have HY := hide hy
      clear hy hx2 hl c4
      by_cases c5 : 56320 ≤ y ∧ y < 57344
      · have HV := hide (fsV_of (big := big) (l := a :: b :: c :: d :: r') (z := pairV x y) (n := 4) (by rw [fsS, ← HX.out, if_neg C12.out, if_pos C3.out, fsT, ← HY.out, if_pos c5]))
        have t5 : decide ((56320 : Int) ≤ y) = true := decide_eq_true (by omega)
        have t6 : decide ((y : Int) < 57344) = true := decide_eq_true (by omega)
        have k1 := K1.out
        have k3 := C3.out
        obtain ⟨k5, k6⟩ := c5
        clear hlen
        go_enter Tryz.func166, Tryz.ntmps166
        go_wp2_with fail
        refine (HN.out _).mono ?_
        rintro e w1 ⟨rfl, hb1⟩
        go_wp2_with fail
        refine (HN2.out _).mono ?_
        rintro e w2 ⟨rfl, hb2⟩
        go_upto_region 7 with (fail)
        clear t1 t2 t3 t4 t5 t6 hlt hlt2 h2 s2 hs'
        go_wp2_with fail
        go_ret2
        refine ⟨?_, hb1.trans (hb2.mono hb1.size)⟩
        rw [HV.out]
        show Ending.returned (.tuple #[.int .i32 _, .int .i64 _]) = _
        congr 5
        unfold pairV; omega
      · have HV := hide (fsV_of (big := big) (l := a :: b :: c :: d :: r') (z := 65533) (n := 2) (by rw [fsS, ← HX.out, if_neg C12.out, if_pos C3.out, fsT, ← HY.out, if_neg c5]))
        have c6 : y < 56320 ∨ (56320 ≤ y ∧ 57344 ≤ y) := by omega
        have c7 : decide ((56320 : Int) ≤ y) = false ∨ (decide ((56320 : Int) ≤ y) = true ∧ decide ((y : Int) < 57344) = false) := by
          rcases c6 with c | ⟨c, c'⟩
          · exact .inl (decide_eq_false (by omega))
          · exact .inr ⟨decide_eq_true (by omega), decide_eq_false (by omega)⟩
        clear c5 c6
        rcases c7 with t5 | ⟨t5, t6⟩
        all_goals
          clear hlen
          go_enter Tryz.func166, Tryz.ntmps166
          go_wp2_with fail
          refine (HN.out _).mono ?_
          rintro e w1 ⟨rfl, hb1⟩
          go_wp2_with fail
          refine (HN2.out _).mono ?_
          rintro e w2 ⟨rfl, hb2⟩
          go_wp2_with fail
          go_ret2
          exact ⟨by rw [HV.out]; rfl, hb1.trans (hb2.mono hb1.size)⟩
    · have HV := hide (fsV_of (big := big) (l := a :: b :: r) (z := 65533) (n := 2) (by
        rw [fsS, ← HX.out, if_neg C12.out, if_pos C3.out]
        match r, hlen with
        | [], _ => rfl
        | [_], _ => rfl
        | _ :: _ :: r', h => simp at h; omega))
      have t4 : decide ((3 : Int) < s.size) = false := decide_eq_false (by omega)
      clear c4
      clear hlen
      go_enter Tryz.func166, Tryz.ntmps166
      go_wp2_with fail
      refine (HN.out _).mono ?_
      rintro e w1 ⟨rfl, hb1⟩
      go_wp2_with fail
      go_ret2
      exact ⟨by rw [HV.out]; rfl, hb1⟩
  · have HV := hide (fsV_of (big := big) (l := a :: b :: r) (z := 65533) (n := 2) (by rw [fsS, ← HX.out, if_neg C12.out, if_neg c3]))
    have t3 : decide ((x : Int) < 56320) = false := decide_eq_false (by omega)
    clear c3
    clear hlen
    go_enter Tryz.func166, Tryz.ntmps166
    go_wp2_with fail
    refine (HN.out _).mono ?_
    rintro e w1 ⟨rfl, hb1⟩
    go_wp2_with fail
    go_ret2
    exact ⟨by rw [HV.out]; rfl, hb1⟩

def szOf4 : Value → Nat
  | .string t => t.size
  | _ => 0
set_option maxRecDepth 100000 in
set_option maxHeartbeats 2000000 in
theorem fromPairs_any (s : ByteArray) (big : Bool) (w : World) (hs : s.size ≤ 1048576) :
    Calls Tryz.prog 143 #[.string s, .int .i64 (hiAt big)] w fun e w' => e = .returned (.string (str (pairsL big s.data.toList))) ∧ Below w.heap.size w w' := by
  have HFS := hide (fun (t : ByteArray) (w : World) (ht : t.size ≤ maxLen) (h2 : 1 < t.size) => firstSign_any t big w ht h2)
  obtain ⟨z, hz⟩ : ∃ z, z = hiAt big := ⟨_, rfl⟩
  rw [← hz] at HFS ⊢
  clear hz
  go_enter Tryz.func143, Tryz.ntmps143
  go_wp2_with (refine wpList_buf_make rfl _ _ rfl w.heap.size w (Below.refl _ _) (Nat.le_refl _) s.size s.size rfl rfl rfl (by omega) ?_; intro v0 w0 hb0)
  go_loopw [0, 5] (fun x v wr => ∃ (t : ByteArray) (acc : List UInt8), x = .string t ∧ Buf w.heap.size v acc w wr ∧ acc.length + 3 * t.size ≤ 3 * s.size ∧ acc ++ pairsL big t.data.toList = pairsL big s.data.toList) (fun x _ _ => szOf4 x)
  case atStart => exact ⟨s, [], rfl, hb0, by simp, by simp⟩
  case round =>
    obtain ⟨t, acc, rfl, hb, hacc, hd⟩ := hrel
    have HB := hide hb
    clear hb
    by_cases hlt : 1 < t.size
    · obtain ⟨p1, p2, p3, p4, p5⟩ := pairs_step big t.data.toList (by rw [toList_length]; omega)
      have p6 := runeL_length (fsS big t.data.toList).1
      rw [p1, ← List.append_assoc] at hd
      rw [toList_length] at p3
      have hF : fsV big t.data.toList = .tuple #[.int .i32 (fsS big t.data.toList).1, .int .i64 (fsS big t.data.toList).2] := rfl
      generalize fsS big t.data.toList = st at hd hF p2 p3 p4 p5 p6
      obtain ⟨r, n⟩ := st
      simp only at hd hF p2 p3 p4 p5 p6
      have p7 : (runeL r).length ≤ 3 * n := by omega
      have p8 : 2 ≤ n := by omega
      have HR := hide hd
      have HF := hide hF
      clear hd hF p1 p2 p6
      go_wp2_with fail
      refine (HFS.out t _ (by unfold maxLen; omega) hlt).mono ?_
      rintro e w1 ⟨rfl, hb1⟩
      rw [HF.out]
      have HB1 := hide (HB.out.kept hb1)
      go_wp2_with fail
      refine (appendRune_any w.heap.size u5 acc w _ HB1.out r (by omega) (by omega) (by omega)).mono ?_
      rintro e w2 ⟨v2, rfl, hb2, _⟩
      have HB2 := hide hb2
      clear hb2
      go_wp2_with fail
      go_roundw
      case rel => exact ⟨t.extract n t.size, acc ++ _, rfl, HB2.out, by rw [ByteArray.size_extract, List.length_append]; omega, by rw [extract_end]; exact HR.out⟩
      case measure => simp [szOf4]; omega
    · have hl := toList_length t
      have hp := pairs_short big t.data.toList (by omega)
      rw [hl] at hp
      by_cases h1 : 0 < t.size
      · rw [hp, if_pos (by omega)] at hd
        have HR := hide hd
        clear hd hp hl
        go_wp2_with fail
        refine (appendRune_any w.heap.size u5 acc w _ HB.out 65533 (by omega) (by omega) (by omega)).mono ?_
        rintro e w2 ⟨v2, rfl, hb2, _⟩
        rw [runeL_bad'] at hb2
        have HB2 := hide hb2
        have hcv := hb2.convert
        clear hb2
        go_wp2_with fail
        go_ret
        exact ⟨ret_str (by rw [HR.out]), HB2.out.below⟩
      · rw [hp, if_neg (by omega), List.append_nil] at hd
        have HR := hide hd
        have hcv := HB.out.convert
        clear hd hp hl
        go_wp2_with fail
        go_ret
        exact ⟨ret_str (by rw [HR.out]), HB.out.below⟩
end Go.Proofs.YtmojckphfbcibaaGreatDoor

/- WALK of chars.Decode. No statement is proved here. -/
namespace Go.Proofs.YtmojckphfbcibaaGreatDoor
open Go.RowKit
set_option linter.unusedVariables false
set_option linter.unusedSimpArgs false

/-- what Decode answers -/
def decV (k : Nat) (l : List UInt8) : Value := .tuple #[.string (str (decodeL k l)), .bool (decide (0 < k))]
set_option maxHeartbeats 2000000 in
theorem charsDecode_any (label s : ByteArray) (w : World) (hl : label.size ≤ 70368744177664) (hs : s.size ≤ 1048576) (hT : Tab w) :
    Calls Tryz.prog 110 #[.string label, .string s] w fun e w' => e = .returned (decV (kindL label.data.toList) s.data.toList) ∧ Below w.heap.size w w' := by
  have HT := hide hT
  have H0 := hide hT.lt
  clear hT
  have HK := hide (fun (w : World) => known_any label w hl)
  have hk5 := kind_lt label.data.toList
  generalize kindL label.data.toList = k at HK hk5
  have hk : k = 0 ∨ k = 1 ∨ k = 2 ∨ k = 3 ∨ k = 4 := by omega
  clear hk5
  have KV0 : Hid (knownV 0 = .tuple #[.string ⟨#[]⟩, .bool false]) := hide rfl
  have KV1 : Hid (knownV 1 = .tuple #[.string ⟨#[117, 116, 102, 45, 56]⟩, .bool true]) := hide rfl
  have KV2 : Hid (knownV 2 = .tuple #[.string ⟨#[119, 105, 110, 100, 111, 119, 115, 45, 49, 50, 53, 50]⟩, .bool true]) := hide rfl
  have KV3 : Hid (knownV 3 = .tuple #[.string ⟨#[117, 116, 102, 45, 49, 54, 108, 101]⟩, .bool true]) := hide rfl
  have KV4 : Hid (knownV 4 = .tuple #[.string ⟨#[117, 116, 102, 45, 49, 54, 98, 101]⟩, .bool true]) := hide rfl
  have P3 := hide (fun (w : World) => fromPairs_any s false w hs)
  have P4 := hide (fun (w : World) => fromPairs_any s true w hs)
  rw [show hiAt false = 1 from rfl] at P3
  rw [show hiAt true = 0 from rfl] at P4
  rcases hk with rfl | rfl | rfl | rfl | rfl
  · go_enter Tryz.func110, Tryz.ntmps110
    go_wp2_with fail
    refine (HK.out _).mono ?_
    rintro e w1 ⟨rfl, hb1⟩
    rw [KV0.out]
    go_wp2_with fail
    refine (valid_any s _ hs).mono ?_
    rintro e w2 ⟨rfl, hb2⟩
    go_wp2_with fail
    go_ret2
    exact ⟨rfl, hb1.trans (hb2.mono hb1.size)⟩
  · go_enter Tryz.func110, Tryz.ntmps110
    go_wp2_with fail
    refine (HK.out _).mono ?_
    rintro e w1 ⟨rfl, hb1⟩
    rw [KV1.out]
    go_wp2_with fail
    refine (valid_any s _ hs).mono ?_
    rintro e w2 ⟨rfl, hb2⟩
    go_wp2_with fail
    go_ret2
    exact ⟨rfl, hb1.trans (hb2.mono hb1.size)⟩
  · go_enter Tryz.func110, Tryz.ntmps110
    go_wp2_with fail
    refine (HK.out _).mono ?_
    rintro e w1 ⟨rfl, hb1⟩
    rw [KV2.out]
    go_wp2_with fail
    refine (fromWindows_any s _ hs (HT.out.below hb1 H0.out)).mono ?_
    rintro e w2 ⟨rfl, hb2⟩
    go_wp2_with fail
    go_ret2
    exact ⟨rfl, hb1.trans (hb2.mono hb1.size)⟩
  · go_enter Tryz.func110, Tryz.ntmps110
    go_wp2_with fail
    refine (HK.out _).mono ?_
    rintro e w1 ⟨rfl, hb1⟩
    rw [KV3.out]
    go_wp2_with fail
    refine (P3.out _).mono ?_
    rintro e w2 ⟨rfl, hb2⟩
    go_wp2_with fail
    go_ret2
    exact ⟨rfl, hb1.trans (hb2.mono hb1.size)⟩
  · go_enter Tryz.func110, Tryz.ntmps110
    go_wp2_with fail
    refine (HK.out _).mono ?_
    rintro e w1 ⟨rfl, hb1⟩
    rw [KV4.out]
    go_wp2_with fail
    refine (P4.out _).mono ?_
    rintro e w2 ⟨rfl, hb2⟩
    go_wp2_with fail
    go_ret2
    exact ⟨rfl, hb1.trans (hb2.mono hb1.size)⟩
end Go.Proofs.YtmojckphfbcibaaGreatDoor

/- WALK of ent.signOf. No statement is proved here. -/
namespace Go.Proofs.YtmojckphfbcibaaGreatDoor
open Go.RowKit
set_option linter.unusedVariables false
set_option linter.unusedSimpArgs false
set_option maxRecDepth 100000
/-- the sign of a number -/
def signN (n : Nat) : Int := if n = 0 ∨ 1114111 < n ∨ (55296 ≤ n ∧ n ≤ 57343) then 65533 else if 128 ≤ n ∧ n ≤ 159 then winR (UInt8.ofNat n) else n
theorem win_dec (c : UInt8) : (decL (runeL (winR c))).1 = (winR c).toNat ∧ 0 ≤ winR c := by
  have := u8_all (p := fun c => (decL (runeL (winR c))).1 = (winR c).toNat ∧ 0 ≤ winR c) (by decide +kernel) c
  exact this
theorem dec_win (c : UInt8) : Lib.decodeGo (str (runeL (winR c))) = ((winR c).toNat, (decL (runeL (winR c))).2) := by
  have hl := (runeL_length (winR c)).1
  have hz : (str (runeL (winR c))).size ≠ 0 := by rw [str_size]; omega
  unfold Lib.decodeGo
  rw [if_neg hz, decode_decL _ _ (by omega), List.drop_zero, str_toList]
  exact Prod.ext (win_dec c).1 rfl
theorem signN_window {n : Nat} (h1 : 128 ≤ n) (h2 : n ≤ 159) : signN n = winR (UInt8.ofNat n) := by
  unfold signN; rw [if_neg (by omega), if_pos ⟨h1, h2⟩]
theorem signN_bad {n : Nat} (h : n = 0 ∨ 1114111 < n ∨ (55296 ≤ n ∧ n ≤ 57343)) : signN n = 65533 := by unfold signN; rw [if_pos h]
theorem signN_own {n : Nat} (h : ¬ (n = 0 ∨ 1114111 < n ∨ (55296 ≤ n ∧ n ≤ 57343))) (h' : ¬ (128 ≤ n ∧ n ≤ 159)) : signN n = n := by unfold signN; rw [if_neg h, if_neg h']
theorem tabs_lt {w : World} (h : Lib.Utf8Tabs 4 5 w) : 4 < w.heap.size ∧ 5 < w.heap.size :=
  ⟨World.block_lt_of_cell? _ _ (h.1 0 (by decide)), World.block_lt_of_cell? _ _ (h.2 0 (by decide)).1⟩
theorem tabs_kept {w w' : World} (h : Lib.Utf8Tabs 4 5 w) (hb : Below w.heap.size w w') : Lib.Utf8Tabs 4 5 w' := by
  obtain ⟨l1, l2⟩ := tabs_lt h
  exact ⟨fun c hc => (hb.cell (p := ⟨4, c, none⟩) l1).trans (h.1 c hc), fun i hi => ⟨(hb.cell (p := ⟨5, 2 * i, none⟩) l2).trans (h.2 i hi).1, (hb.cell (p := ⟨5, 2 * i + 1, none⟩) l2).trans (h.2 i hi).2⟩⟩
theorem kind_win : kindL [119, 105, 110, 100, 111, 119, 115, 45, 49, 50, 53, 50] = 2 := by decide +kernel
set_option maxHeartbeats 4000000 in
theorem signOf_any (n : Nat) (w : World) (hn : n < 2147483648) (hT : Tab w) (hU : Lib.Utf8Tabs 4 5 w) :
    Calls Tryz.prog 89 #[.int .i32 n] w fun e w' => e = .returned (.int .i32 (signN n)) ∧ Below w.heap.size w w' := by
  by_cases c0 : n = 0
  · have HR : Hid (signN n = 65533) := hide (signN_bad (.inl c0))
    subst c0
    go_enter Tryz.func89, Tryz.ntmps89
    go_wp2_with fail
    go_ret
    exact ⟨by rw [HR.out]; rfl, Below.refl _ _⟩
  have t0 : ((n : Int) == 0) = false := beq_eq_false_iff_ne.2 (by omega)
  by_cases c1 : 1114111 < n
  · have HR : Hid (signN n = 65533) := hide (signN_bad (.inr (.inl c1)))
    have t1 : decide ((1114111 : Int) < n) = true := decide_eq_true (by omega)
    clear c0
    go_enter Tryz.func89, Tryz.ntmps89
    go_wp2_with fail
    go_ret
    exact ⟨by rw [HR.out]; rfl, Below.refl _ _⟩
  have t1 : decide ((1114111 : Int) < n) = false := decide_eq_false (by omega)
  by_cases c2 : 55296 ≤ n
  · have t2 : decide ((55296 : Int) ≤ n) = true := decide_eq_true (by omega)
    by_cases c3 : n ≤ 57343
    · have HR : Hid (signN n = 65533) := hide (signN_bad (.inr (.inr ⟨c2, c3⟩)))
      have t3 : decide ((n : Int) ≤ 57343) = true := decide_eq_true (by omega)
      clear c0 c1 c2 c3
      go_enter Tryz.func89, Tryz.ntmps89
      go_wp2_with fail
      go_ret
      exact ⟨by rw [HR.out]; rfl, Below.refl _ _⟩
    · have HR : Hid (signN n = n) := hide (signN_own (by omega) (by omega))
      have t3 : decide ((n : Int) ≤ 57343) = false := decide_eq_false (by omega)
      have t4 : decide ((128 : Int) ≤ n) = true := decide_eq_true (by omega)
      have t5 : decide ((n : Int) ≤ 159) = false := decide_eq_false (by omega)
      clear c0 c1 c2 c3
      go_enter Tryz.func89, Tryz.ntmps89
      go_wp2_with fail
      go_ret
      exact ⟨by rw [HR.out]; rfl, Below.refl _ _⟩
  have t2 : decide ((55296 : Int) ≤ n) = false := decide_eq_false (by omega)
  by_cases c4 : 128 ≤ n
  · have t4 : decide ((128 : Int) ≤ n) = true := decide_eq_true (by omega)
    by_cases c5 : n ≤ 159
    · have t5 : decide ((n : Int) ≤ 159) = true := decide_eq_true (by omega)
      obtain ⟨c, hc⟩ : ∃ c, c = UInt8.ofNat n := ⟨_, rfl⟩
      have hcn : c.toNat = n := by rw [hc, UInt8.toNat_ofNat', Nat.mod_eq_of_lt (by omega)]
      have HR : Hid (signN n = winR c) := hide (by rw [hc]; exact signN_window c4 c5)
      have x1 : IntKind.u8.wrap (n : Int) = (n : Int) := IntWalk.u8_in _ (by omega)
      have hbs : strOfNums [(n : Int)] = ⟨#[c]⟩ := by rw [← hcn]; apply ext_list; rw [nums_list]; simp
      have hcv := conv1 w (n : Int)
      rw [hbs] at hcv
      have HD := hide (fun w1 (h1 : Tab w1) => charsDecode_any ⟨#[119, 105, 110, 100, 111, 119, 115, 45, 49, 50, 53, 50]⟩ ⟨#[c]⟩ w1 (by decide) (by show (⟨#[c]⟩ : ByteArray).size ≤ _; rw [show (⟨#[c]⟩ : ByteArray).size = 1 from rfl]; decide) h1)
      have eD : decV (kindL (⟨#[119, 105, 110, 100, 111, 119, 115, 45, 49, 50, 53, 50]⟩ : ByteArray).data.toList) (⟨#[c]⟩ : ByteArray).data.toList = .tuple #[.string (str (runeL (winR c))), .bool true] := by
        rw [show (⟨#[119, 105, 110, 100, 111, 119, 115, 45, 49, 50, 53, 50]⟩ : ByteArray).data.toList = [119, 105, 110, 100, 111, 119, 115, 45, 49, 50, 53, 50] from rfl, kind_win]
        show Value.tuple #[.string (str (winL [c])), .bool true] = _
        rw [winL_cons]
        show Value.tuple #[.string (str (runeL (winR c) ++ [])), .bool true] = _
        rw [List.append_nil]
      rw [eD] at HD
      have HU := hide (fun w1 h1 => Tryz.utf8_DecodeRuneInString (str (runeL (winR c))) w1 h1)
      rw [dec_win] at HU
      have hp : ((winR c).toNat : Int) = winR c := Int.toNat_of_nonneg (win_dec c).2
      rw [show (((winR c).toNat, (decL (runeL (winR c))).2) : Nat × Nat).1 = (winR c).toNat from rfl, hp] at HU
      have KB : Hid (Below w.heap.size w (w.alloc (.cells #[.int .u8 (n : Int)] 5))) := hide ((Below.refl _ _).alloc (Nat.le_refl _) _)
      have HT := hide (hT.below KB.out hT.lt)
      have HTU := hide hU
      obtain ⟨S, hS⟩ : ∃ S, str (runeL (winR c)) = S := ⟨_, rfl⟩
      obtain ⟨R, hR⟩ : ∃ R, winR c = R := ⟨_, rfl⟩
      rw [hS] at HD HU
      rw [hR] at HU HR
      clear c0 c1 c2 c4 c5 hc hcn hbs eD hp hS hR hT hU
      go_enter Tryz.func89, Tryz.ntmps89
      go_wp2_with (first
        | (go_at_call 110; refine (HD.out _ HT.out).mono ?_; rintro e w1 ⟨rfl, hb1⟩; have HB1 := hide (KB.out.trans (hb1.mono KB.out.size)); clear hb1)
        | (go_at_call 111; refine (HU.out _ (tabs_kept HTU.out HB1.out)).mono ?_; rintro e w2 ⟨rfl, hb2⟩; have HB2 := hide (HB1.out.trans (hb2.mono HB1.out.size)); clear hb2))
      go_ret
      exact ⟨by rw [HR.out]; rfl, HB2.out⟩
    · have HR : Hid (signN n = n) := hide (signN_own (by omega) (by omega))
      have t5 : decide ((n : Int) ≤ 159) = false := decide_eq_false (by omega)
      clear c0 c1 c2 c4 c5
      go_enter Tryz.func89, Tryz.ntmps89
      go_wp2_with fail
      go_ret
      exact ⟨by rw [HR.out]; rfl, Below.refl _ _⟩
  · have HR : Hid (signN n = n) := hide (signN_own (by omega) (by omega))
    have t4 : decide ((128 : Int) ≤ n) = false := decide_eq_false (by omega)
    clear c0 c1 c2 c4
    go_enter Tryz.func89, Tryz.ntmps89
    go_wp2_with fail
    go_ret
    exact ⟨by rw [HR.out]; rfl, Below.refl _ _⟩
end Go.Proofs.YtmojckphfbcibaaGreatDoor

/- WALK of ent.byNumber. No statement is proved here. -/
namespace Go.Proofs.YtmojckphfbcibaaGreatDoor
open Go.RowKit
set_option linter.unusedVariables false
set_option linter.unusedSimpArgs false
set_option maxRecDepth 100000
/-- the sign of digits -/
def numAt (b most : Nat) (l : List UInt8) : Option Int :=
  match parseU b l with
  | none => none
  | some n => if most < l.length then none else some (signN n)
def entV : Option Int → Value
  | some x => .tuple #[.int .i32 x, .bool true]
  | none => .tuple #[.int .i32 0, .bool false]
theorem parseB_lt {b : Nat} (hb : 0 < b) (l : List UInt8) : ∀ m n, parseB b m l = some n → n + 1 ≤ (m + 1) * b ^ l.length := by
  induction l with
  | nil => intro m n h; injection h with h; subst h; simp
  | cons c r ih =>
    intro m n h
    rw [parseB] at h
    unfold digB at h
    by_cases hd : dgV c < b
    · rw [if_pos hd] at h
      have h1 := ih _ _ h
      have h2 : m * b + dgV c + 1 ≤ (m + 1) * b := by rw [Nat.succ_mul]; omega
      have h3 := Nat.mul_le_mul_right (b ^ r.length) h2
      rw [List.length_cons, Nat.pow_succ, Nat.mul_comm (b ^ r.length) b, ← Nat.mul_assoc]
      exact Nat.le_trans h1 h3
    · rw [if_neg hd] at h; cases h
theorem parse_lt {b : Nat} {l : List UInt8} (hb : 0 < b) : ∀ n, parseU b l = some n → n < b ^ l.length := by
  intro n h
  unfold parseU at h
  split at h
  · cases h
  · have := parseB_lt hb l 0 n h
    rw [Nat.zero_add, Nat.one_mul] at this
    exact this
theorem pref_size {D : ByteArray} {c : UInt8} (h : Lib.hasPrefix D.data.toList [c] = true) : 1 ≤ D.size := by
  rw [← toList_length]
  cases hl : D.data.toList with
  | nil => rw [hl] at h; cases h
  | cons a r => exact Nat.succ_pos _

set_option maxHeartbeats 4000000 in
theorem byNumber_x (D : ByteArray) (ev : Value) (w : World) (hs : D.size ≤ 8) (p1 : Lib.hasPrefix D.data.toList [120] = true) (hT : Tab w) (hU : Lib.Utf8Tabs 4 5 w)
    (hv : w.cell? ⟨1, 0, none⟩ = some ev) (hev : ev = .nilIface ∨ ∃ te pe, ev = .iface te pe) :
    Calls Tryz.prog 69 #[.string D] w fun e w' => e = .returned (entV (numAt 16 6 (D.extract 1 D.size).data.toList)) ∧ Below w.heap.size w w' := by
  have z1 : 1 ≤ D.size := pref_size p1
  have k1 : (1 : Int) ≤ D.size := by omega
  have P1 : Hid (Lib.hasPrefix D.data.toList [120] = true) := hide p1
  have HT := hide hT
  have HTU := hide hU
  have HC := hide (fun w1 (hb : Below w.heap.size w w1) => parse16_any (D.extract 1 D.size) ev w1 (Nat.le_trans (by rw [ByteArray.size_extract]; omega) hs) ((hb.cell (p := ⟨1, 0, none⟩) (World.block_lt_of_cell? _ _ hv)).trans hv) hev)
  have tok1 : True := trivial
  have tok2 : True := trivial
  have hrl : (D.extract 1 D.size).size = (D.size - 1) := (by rw [ByteArray.size_extract]; omega)
  have HB0 := hide (parse_lt (b := 16) (l := (D.extract 1 D.size).data.toList) (by decide))
  cases hu : parseU 16 (D.extract 1 D.size).data.toList with
  | none =>
    have HU := hide hu
    have HR : Hid (numAt 16 6 (D.extract 1 D.size).data.toList = none) := hide (by unfold numAt; rw [hu])
    clear hu hT hU hv hev p1
    go_enter Tryz.func69, Tryz.ntmps69
    go_wp2_with (first
      | (go_at_call 65; have _t := tok1; refine (Tryz.strings_HasPrefix D ⟨#[120]⟩ _).mono ?_; rintro e w1 ⟨rfl, hw1⟩; obtain rfl := hw1.symm; rw [show (⟨#[120]⟩ : ByteArray).data.toList = [120] from rfl, P1.out]; clear tok1)
      | (go_at_call 88; refine (HC.out _ (Below.refl _ _)).mono ?_; rintro e w1 ⟨he, hb1⟩; rw [HU.out] at he; obtain ⟨N, rfl⟩ := he; have HB1 := hide hb1; clear hb1)
      | (go_at_call 89; refine (signOf_any _ _ HN31.out (HT.out.below HB1.out HT.out.lt) (tabs_kept HTU.out HB1.out)).mono ?_; rintro e w2 ⟨rfl, hb2⟩; have HB2 := hide (HB1.out.trans (hb2.mono HB1.out.size)); clear hb2))
    go_ret2
    exact ⟨by rw [HR.out]; rfl, HB1.out⟩
  | some n =>
    have HU := hide hu
    have hlt := HB0.out n hu
    rw [toList_length, hrl] at hlt
    by_cases hm : 6 < (D.size - 1)
    · have HR : Hid (numAt 16 6 (D.extract 1 D.size).data.toList = none) := hide (by unfold numAt; rw [hu]; simp only []; rw [toList_length, hrl, if_pos hm])
      have t1 : decide ((6 : Int) < ((D.extract 1 D.size).size : Int)) = true := decide_eq_true (by rw [hrl]; omega)
      have t2 : decide (6 < (D.extract 1 D.size).size) = true := decide_eq_true (by rw [hrl]; exact hm)
      have t3 : decide ((6 : Int) < (((D.size - 1) : Nat) : Int)) = true := decide_eq_true (by omega)
      have t4 : decide (6 < (D.size - 1)) = true := decide_eq_true hm
      clear hu hT hU hv hev p1 hlt hm hrl
      go_enter Tryz.func69, Tryz.ntmps69
      go_wp2_with (first
      | (go_at_call 65; have _t := tok1; refine (Tryz.strings_HasPrefix D ⟨#[120]⟩ _).mono ?_; rintro e w1 ⟨rfl, hw1⟩; obtain rfl := hw1.symm; rw [show (⟨#[120]⟩ : ByteArray).data.toList = [120] from rfl, P1.out]; clear tok1)
      | (go_at_call 88; refine (HC.out _ (Below.refl _ _)).mono ?_; rintro e w1 ⟨he, hb1⟩; rw [HU.out] at he; obtain rfl := he; have HB1 := hide hb1; clear hb1)
      | (go_at_call 89; refine (signOf_any _ _ HN31.out (HT.out.below HB1.out HT.out.lt) (tabs_kept HTU.out HB1.out)).mono ?_; rintro e w2 ⟨rfl, hb2⟩; have HB2 := hide (HB1.out.trans (hb2.mono HB1.out.size)); clear hb2))
      go_ret2
      exact ⟨by rw [HR.out]; rfl, HB1.out⟩
    · have HR : Hid (numAt 16 6 (D.extract 1 D.size).data.toList = some (signN n)) := hide (by unfold numAt; rw [hu]; simp only []; rw [toList_length, hrl, if_neg hm])
      have t1 : decide ((6 : Int) < ((D.extract 1 D.size).size : Int)) = false := decide_eq_false (by rw [hrl]; omega)
      have t2 : decide (6 < (D.extract 1 D.size).size) = false := decide_eq_false (by rw [hrl]; exact hm)
      have t3 : decide ((6 : Int) < (((D.size - 1) : Nat) : Int)) = false := decide_eq_false (by omega)
      have t4 : decide (6 < (D.size - 1)) = false := decide_eq_false hm
      have hn31 : n < 2147483648 := Nat.lt_of_lt_of_le hlt (Nat.le_trans (Nat.pow_le_pow_right (by decide) (by omega : (D.size - 1) ≤ 6)) (by decide))
      have HN31 := hide hn31
      have x1 : IntKind.i32.wrap (n : Int) = (n : Int) := IntWalk.i32_in _ (by omega)
      clear hu hT hU hv hev p1 hlt hm hrl hn31
      go_enter Tryz.func69, Tryz.ntmps69
      go_wp2_with (first
      | (go_at_call 65; have _t := tok1; refine (Tryz.strings_HasPrefix D ⟨#[120]⟩ _).mono ?_; rintro e w1 ⟨rfl, hw1⟩; obtain rfl := hw1.symm; rw [show (⟨#[120]⟩ : ByteArray).data.toList = [120] from rfl, P1.out]; clear tok1)
      | (go_at_call 88; refine (HC.out _ (Below.refl _ _)).mono ?_; rintro e w1 ⟨he, hb1⟩; rw [HU.out] at he; obtain rfl := he; have HB1 := hide hb1; clear hb1)
      | (go_at_call 89; refine (signOf_any _ _ HN31.out (HT.out.below HB1.out HT.out.lt) (tabs_kept HTU.out HB1.out)).mono ?_; rintro e w2 ⟨rfl, hb2⟩; have HB2 := hide (HB1.out.trans (hb2.mono HB1.out.size)); clear hb2))
      go_ret2
      exact ⟨by rw [HR.out]; rfl, HB2.out⟩

set_option maxHeartbeats 4000000 in
theorem byNumber_X (D : ByteArray) (ev : Value) (w : World) (hs : D.size ≤ 8) (p1 : Lib.hasPrefix D.data.toList [120] = false) (p2 : Lib.hasPrefix D.data.toList [88] = true) (hT : Tab w) (hU : Lib.Utf8Tabs 4 5 w)
    (hv : w.cell? ⟨1, 0, none⟩ = some ev) (hev : ev = .nilIface ∨ ∃ te pe, ev = .iface te pe) :
    Calls Tryz.prog 69 #[.string D] w fun e w' => e = .returned (entV (numAt 16 6 (D.extract 1 D.size).data.toList)) ∧ Below w.heap.size w w' := by
  have z1 : 1 ≤ D.size := pref_size p2
  have k1 : (1 : Int) ≤ D.size := by omega
  have P1 : Hid (Lib.hasPrefix D.data.toList [120] = false) := hide p1
  have P2 : Hid (Lib.hasPrefix D.data.toList [88] = true) := hide p2
  have HT := hide hT
  have HTU := hide hU
  have HC := hide (fun w1 (hb : Below w.heap.size w w1) => parse16_any (D.extract 1 D.size) ev w1 (Nat.le_trans (by rw [ByteArray.size_extract]; omega) hs) ((hb.cell (p := ⟨1, 0, none⟩) (World.block_lt_of_cell? _ _ hv)).trans hv) hev)
  have tok1 : True := trivial
  have tok2 : True := trivial
  have hrl : (D.extract 1 D.size).size = (D.size - 1) := (by rw [ByteArray.size_extract]; omega)
  have HB0 := hide (parse_lt (b := 16) (l := (D.extract 1 D.size).data.toList) (by decide))
  cases hu : parseU 16 (D.extract 1 D.size).data.toList with
  | none =>
    have HU := hide hu
    have HR : Hid (numAt 16 6 (D.extract 1 D.size).data.toList = none) := hide (by unfold numAt; rw [hu])
    clear hu hT hU hv hev p1 p2
    go_enter Tryz.func69, Tryz.ntmps69
    go_wp2_with (first
      | (go_at_call 65; have _t := tok1; refine (Tryz.strings_HasPrefix D ⟨#[120]⟩ _).mono ?_; rintro e w1 ⟨rfl, hw1⟩; obtain rfl := hw1.symm; rw [show (⟨#[120]⟩ : ByteArray).data.toList = [120] from rfl, P1.out]; clear tok1)
      | (go_at_call 65; have _t := tok2; refine (Tryz.strings_HasPrefix D ⟨#[88]⟩ _).mono ?_; rintro e w1 ⟨rfl, hw1⟩; obtain rfl := hw1.symm; rw [show (⟨#[88]⟩ : ByteArray).data.toList = [88] from rfl, P2.out]; clear tok2)
      | (go_at_call 88; refine (HC.out _ (Below.refl _ _)).mono ?_; rintro e w1 ⟨he, hb1⟩; rw [HU.out] at he; obtain ⟨N, rfl⟩ := he; have HB1 := hide hb1; clear hb1)
      | (go_at_call 89; refine (signOf_any _ _ HN31.out (HT.out.below HB1.out HT.out.lt) (tabs_kept HTU.out HB1.out)).mono ?_; rintro e w2 ⟨rfl, hb2⟩; have HB2 := hide (HB1.out.trans (hb2.mono HB1.out.size)); clear hb2))
    go_ret2
    exact ⟨by rw [HR.out]; rfl, HB1.out⟩
  | some n =>
    have HU := hide hu
    have hlt := HB0.out n hu
    rw [toList_length, hrl] at hlt
    by_cases hm : 6 < (D.size - 1)
    · have HR : Hid (numAt 16 6 (D.extract 1 D.size).data.toList = none) := hide (by unfold numAt; rw [hu]; simp only []; rw [toList_length, hrl, if_pos hm])
      have t1 : decide ((6 : Int) < ((D.extract 1 D.size).size : Int)) = true := decide_eq_true (by rw [hrl]; omega)
      have t2 : decide (6 < (D.extract 1 D.size).size) = true := decide_eq_true (by rw [hrl]; exact hm)
      have t3 : decide ((6 : Int) < (((D.size - 1) : Nat) : Int)) = true := decide_eq_true (by omega)
      have t4 : decide (6 < (D.size - 1)) = true := decide_eq_true hm
      clear hu hT hU hv hev p1 p2 hlt hm hrl
      go_enter Tryz.func69, Tryz.ntmps69
      go_wp2_with (first
      | (go_at_call 65; have _t := tok1; refine (Tryz.strings_HasPrefix D ⟨#[120]⟩ _).mono ?_; rintro e w1 ⟨rfl, hw1⟩; obtain rfl := hw1.symm; rw [show (⟨#[120]⟩ : ByteArray).data.toList = [120] from rfl, P1.out]; clear tok1)
      | (go_at_call 65; have _t := tok2; refine (Tryz.strings_HasPrefix D ⟨#[88]⟩ _).mono ?_; rintro e w1 ⟨rfl, hw1⟩; obtain rfl := hw1.symm; rw [show (⟨#[88]⟩ : ByteArray).data.toList = [88] from rfl, P2.out]; clear tok2)
      | (go_at_call 88; refine (HC.out _ (Below.refl _ _)).mono ?_; rintro e w1 ⟨he, hb1⟩; rw [HU.out] at he; obtain rfl := he; have HB1 := hide hb1; clear hb1)
      | (go_at_call 89; refine (signOf_any _ _ HN31.out (HT.out.below HB1.out HT.out.lt) (tabs_kept HTU.out HB1.out)).mono ?_; rintro e w2 ⟨rfl, hb2⟩; have HB2 := hide (HB1.out.trans (hb2.mono HB1.out.size)); clear hb2))
      go_ret2
      exact ⟨by rw [HR.out]; rfl, HB1.out⟩
    · have HR : Hid (numAt 16 6 (D.extract 1 D.size).data.toList = some (signN n)) := hide (by unfold numAt; rw [hu]; simp only []; rw [toList_length, hrl, if_neg hm])
      have t1 : decide ((6 : Int) < ((D.extract 1 D.size).size : Int)) = false := decide_eq_false (by rw [hrl]; omega)
      have t2 : decide (6 < (D.extract 1 D.size).size) = false := decide_eq_false (by rw [hrl]; exact hm)
      have t3 : decide ((6 : Int) < (((D.size - 1) : Nat) : Int)) = false := decide_eq_false (by omega)
      have t4 : decide (6 < (D.size - 1)) = false := decide_eq_false hm
      have hn31 : n < 2147483648 := Nat.lt_of_lt_of_le hlt (Nat.le_trans (Nat.pow_le_pow_right (by decide) (by omega : (D.size - 1) ≤ 6)) (by decide))
      have HN31 := hide hn31
      have x1 : IntKind.i32.wrap (n : Int) = (n : Int) := IntWalk.i32_in _ (by omega)
      clear hu hT hU hv hev p1 p2 hlt hm hrl hn31
      go_enter Tryz.func69, Tryz.ntmps69
      go_wp2_with (first
      | (go_at_call 65; have _t := tok1; refine (Tryz.strings_HasPrefix D ⟨#[120]⟩ _).mono ?_; rintro e w1 ⟨rfl, hw1⟩; obtain rfl := hw1.symm; rw [show (⟨#[120]⟩ : ByteArray).data.toList = [120] from rfl, P1.out]; clear tok1)
      | (go_at_call 65; have _t := tok2; refine (Tryz.strings_HasPrefix D ⟨#[88]⟩ _).mono ?_; rintro e w1 ⟨rfl, hw1⟩; obtain rfl := hw1.symm; rw [show (⟨#[88]⟩ : ByteArray).data.toList = [88] from rfl, P2.out]; clear tok2)
      | (go_at_call 88; refine (HC.out _ (Below.refl _ _)).mono ?_; rintro e w1 ⟨he, hb1⟩; rw [HU.out] at he; obtain rfl := he; have HB1 := hide hb1; clear hb1)
      | (go_at_call 89; refine (signOf_any _ _ HN31.out (HT.out.below HB1.out HT.out.lt) (tabs_kept HTU.out HB1.out)).mono ?_; rintro e w2 ⟨rfl, hb2⟩; have HB2 := hide (HB1.out.trans (hb2.mono HB1.out.size)); clear hb2))
      go_ret2
      exact ⟨by rw [HR.out]; rfl, HB2.out⟩

set_option maxHeartbeats 4000000 in
theorem byNumber_d (D : ByteArray) (ev : Value) (w : World) (hs : D.size ≤ 8) (p1 : Lib.hasPrefix D.data.toList [120] = false) (p2 : Lib.hasPrefix D.data.toList [88] = false) (hT : Tab w) (hU : Lib.Utf8Tabs 4 5 w)
    (hv : w.cell? ⟨1, 0, none⟩ = some ev) (hev : ev = .nilIface ∨ ∃ te pe, ev = .iface te pe) :
    Calls Tryz.prog 69 #[.string D] w fun e w' => e = .returned (entV (numAt 10 7 D.data.toList)) ∧ Below w.heap.size w w' := by
  have P1 : Hid (Lib.hasPrefix D.data.toList [120] = false) := hide p1
  have P2 : Hid (Lib.hasPrefix D.data.toList [88] = false) := hide p2
  have HT := hide hT
  have HTU := hide hU
  have HC := hide (fun w1 (hb : Below w.heap.size w w1) => parse10_any D ev w1 hs ((hb.cell (p := ⟨1, 0, none⟩) (World.block_lt_of_cell? _ _ hv)).trans hv) hev)
  have tok1 : True := trivial
  have tok2 : True := trivial
  have hrl : D.size = D.size := rfl
  have HB0 := hide (parse_lt (b := 10) (l := D.data.toList) (by decide))
  cases hu : parseU 10 D.data.toList with
  | none =>
    have HU := hide hu
    have HR : Hid (numAt 10 7 D.data.toList = none) := hide (by unfold numAt; rw [hu])
    clear hu hT hU hv hev p1 p2
    go_enter Tryz.func69, Tryz.ntmps69
    go_wp2_with (first
      | (go_at_call 65; have _t := tok1; refine (Tryz.strings_HasPrefix D ⟨#[120]⟩ _).mono ?_; rintro e w1 ⟨rfl, hw1⟩; obtain rfl := hw1.symm; rw [show (⟨#[120]⟩ : ByteArray).data.toList = [120] from rfl, P1.out]; clear tok1)
      | (go_at_call 65; have _t := tok2; refine (Tryz.strings_HasPrefix D ⟨#[88]⟩ _).mono ?_; rintro e w1 ⟨rfl, hw1⟩; obtain rfl := hw1.symm; rw [show (⟨#[88]⟩ : ByteArray).data.toList = [88] from rfl, P2.out]; clear tok2)
      | (go_at_call 88; refine (HC.out _ (Below.refl _ _)).mono ?_; rintro e w1 ⟨he, hb1⟩; rw [HU.out] at he; obtain ⟨N, rfl⟩ := he; have HB1 := hide hb1; clear hb1)
      | (go_at_call 89; refine (signOf_any _ _ HN31.out (HT.out.below HB1.out HT.out.lt) (tabs_kept HTU.out HB1.out)).mono ?_; rintro e w2 ⟨rfl, hb2⟩; have HB2 := hide (HB1.out.trans (hb2.mono HB1.out.size)); clear hb2))
    go_ret2
    exact ⟨by rw [HR.out]; rfl, HB1.out⟩
  | some n =>
    have HU := hide hu
    have hlt := HB0.out n hu
    rw [toList_length, hrl] at hlt
    by_cases hm : 7 < D.size
    · have HR : Hid (numAt 10 7 D.data.toList = none) := hide (by unfold numAt; rw [hu]; simp only []; rw [toList_length, hrl, if_pos hm])
      have t1 : decide ((7 : Int) < (D.size : Int)) = true := decide_eq_true (by rw [hrl]; omega)
      have t2 : decide (7 < D.size) = true := decide_eq_true (by rw [hrl]; exact hm)
      have t3 : decide ((7 : Int) < ((D.size : Nat) : Int)) = true := decide_eq_true (by omega)
      have t4 : decide (7 < D.size) = true := decide_eq_true hm
      clear hu hT hU hv hev p1 p2 hlt hm hrl
      go_enter Tryz.func69, Tryz.ntmps69
      go_wp2_with (first
      | (go_at_call 65; have _t := tok1; refine (Tryz.strings_HasPrefix D ⟨#[120]⟩ _).mono ?_; rintro e w1 ⟨rfl, hw1⟩; obtain rfl := hw1.symm; rw [show (⟨#[120]⟩ : ByteArray).data.toList = [120] from rfl, P1.out]; clear tok1)
      | (go_at_call 65; have _t := tok2; refine (Tryz.strings_HasPrefix D ⟨#[88]⟩ _).mono ?_; rintro e w1 ⟨rfl, hw1⟩; obtain rfl := hw1.symm; rw [show (⟨#[88]⟩ : ByteArray).data.toList = [88] from rfl, P2.out]; clear tok2)
      | (go_at_call 88; refine (HC.out _ (Below.refl _ _)).mono ?_; rintro e w1 ⟨he, hb1⟩; rw [HU.out] at he; obtain rfl := he; have HB1 := hide hb1; clear hb1)
      | (go_at_call 89; refine (signOf_any _ _ HN31.out (HT.out.below HB1.out HT.out.lt) (tabs_kept HTU.out HB1.out)).mono ?_; rintro e w2 ⟨rfl, hb2⟩; have HB2 := hide (HB1.out.trans (hb2.mono HB1.out.size)); clear hb2))
      go_ret2
      exact ⟨by rw [HR.out]; rfl, HB1.out⟩
    · have HR : Hid (numAt 10 7 D.data.toList = some (signN n)) := hide (by unfold numAt; rw [hu]; simp only []; rw [toList_length, hrl, if_neg hm])
      have t1 : decide ((7 : Int) < (D.size : Int)) = false := decide_eq_false (by rw [hrl]; omega)
      have t2 : decide (7 < D.size) = false := decide_eq_false (by rw [hrl]; exact hm)
      have t3 : decide ((7 : Int) < ((D.size : Nat) : Int)) = false := decide_eq_false (by omega)
      have t4 : decide (7 < D.size) = false := decide_eq_false hm
      have hn31 : n < 2147483648 := Nat.lt_of_lt_of_le hlt (Nat.le_trans (Nat.pow_le_pow_right (by decide) (by omega : D.size ≤ 7)) (by decide))
      have HN31 := hide hn31
      have x1 : IntKind.i32.wrap (n : Int) = (n : Int) := IntWalk.i32_in _ (by omega)
      clear hu hT hU hv hev p1 p2 hlt hm hrl hn31
      go_enter Tryz.func69, Tryz.ntmps69
      go_wp2_with (first
      | (go_at_call 65; have _t := tok1; refine (Tryz.strings_HasPrefix D ⟨#[120]⟩ _).mono ?_; rintro e w1 ⟨rfl, hw1⟩; obtain rfl := hw1.symm; rw [show (⟨#[120]⟩ : ByteArray).data.toList = [120] from rfl, P1.out]; clear tok1)
      | (go_at_call 65; have _t := tok2; refine (Tryz.strings_HasPrefix D ⟨#[88]⟩ _).mono ?_; rintro e w1 ⟨rfl, hw1⟩; obtain rfl := hw1.symm; rw [show (⟨#[88]⟩ : ByteArray).data.toList = [88] from rfl, P2.out]; clear tok2)
      | (go_at_call 88; refine (HC.out _ (Below.refl _ _)).mono ?_; rintro e w1 ⟨he, hb1⟩; rw [HU.out] at he; obtain rfl := he; have HB1 := hide hb1; clear hb1)
      | (go_at_call 89; refine (signOf_any _ _ HN31.out (HT.out.below HB1.out HT.out.lt) (tabs_kept HTU.out HB1.out)).mono ?_; rintro e w2 ⟨rfl, hb2⟩; have HB2 := hide (HB1.out.trans (hb2.mono HB1.out.size)); clear hb2))
      go_ret2
      exact ⟨by rw [HR.out]; rfl, HB2.out⟩

end Go.Proofs.YtmojckphfbcibaaGreatDoor

/- WALK of ent.reference. No statement is proved here. -/
namespace Go.Proofs.YtmojckphfbcibaaGreatDoor
open Go.RowKit
set_option linter.unusedVariables false
set_option linter.unusedSimpArgs false
set_option maxRecDepth 100000
/-- the sign of what stands behind a reference's `#` -/
def byN (l : List UInt8) : Option Int := if Lib.hasPrefix l [120] || Lib.hasPrefix l [88] then numAt 16 6 (l.drop 1) else numAt 10 7 l
/-- the sign of what stands between a reference's signs -/
def sgn (l : List UInt8) : Option Int := if Lib.hasPrefix l [35] = true then byN (Lib.trimPrefix l [35]) else nameN l
/-- the sign of the reference whose begin stands just ahead, and how many bytes belong to it -/
def refN (l : List UInt8) : Int × Nat :=
  match sgn (beforeC 59 (l.take 9)), hasC 59 (l.take 9) with
  | some x, true => (x, (beforeC 59 (l.take 9)).length + 1)
  | _, _ => (0, 0)
theorem byNumber_any (D : ByteArray) (ev : Value) (w : World) (hs : D.size ≤ 8) (hT : Tab w) (hU : Lib.Utf8Tabs 4 5 w)
    (hv : w.cell? ⟨1, 0, none⟩ = some ev) (hev : ev = .nilIface ∨ ∃ te pe, ev = .iface te pe) :
    Calls Tryz.prog 69 #[.string D] w fun e w' => e = .returned (entV (byN D.data.toList)) ∧ Below w.heap.size w w' := by
  cases p1 : Lib.hasPrefix D.data.toList [120] with
  | true =>
    have e : byN D.data.toList = numAt 16 6 (D.extract 1 D.size).data.toList := by unfold byN; rw [p1, extract_end]; rfl
    rw [e]; exact byNumber_x D ev w hs p1 hT hU hv hev
  | false =>
    cases p2 : Lib.hasPrefix D.data.toList [88] with
    | true =>
      have e : byN D.data.toList = numAt 16 6 (D.extract 1 D.size).data.toList := by unfold byN; rw [p1, p2, extract_end]; rfl
      rw [e]; exact byNumber_X D ev w hs p1 p2 hT hU hv hev
    | false =>
      have e : byN D.data.toList = numAt 10 7 D.data.toList := by unfold byN; rw [p1, p2]; rfl
      rw [e]; exact byNumber_d D ev w hs p1 p2 hT hU hv hev
theorem dig_size {C D : ByteArray} (hp : Lib.hasPrefix C.data.toList [35] = true) (hD : D.data.toList = Lib.trimPrefix C.data.toList [35]) (h : C.size ≤ 9) : D.size ≤ 8 := by
  have := congrArg List.length hD
  rw [toList_length] at this
  rw [this]
  unfold Lib.trimPrefix
  rw [hp]
  have := pref_size hp
  simp only [if_true, List.length_drop, toList_length]
  have e1 : ([35] : List UInt8).length = 1 := rfl
  omega
def refV (o : Int × Nat) : Value := .tuple #[.int .i32 o.1, .int .i64 o.2]
set_option maxHeartbeats 4000000 in
theorem reference_any (R : ByteArray) (b : Nat) (ev : Value) (w : World) (hs : R.size ≤ 16777216) (hM : SMapN w b 16 nameN) (hT : Tab w) (hU : Lib.Utf8Tabs 4 5 w)
    (hv : w.cell? ⟨1, 0, none⟩ = some ev) (hev : ev = .nilIface ∨ ∃ te pe, ev = .iface te pe) :
    Calls Tryz.prog 43 #[.string R, .map (some b)] w fun e w' => e = .returned (refV (refN R.data.toList)) ∧ Below w.heap.size w w' := by
  have zC : (beforeC 59 (R.data.toList.take 9)).length ≤ 9 := Nat.le_trans ((List.takeWhile_sublist _).length_le) (List.length_take_le _ _)
  obtain ⟨C, hC⟩ : ∃ C, C = str (beforeC 59 (R.data.toList.take 9)) := ⟨_, rfl⟩
  have hCt : C.data.toList = beforeC 59 (R.data.toList.take 9) := by rw [hC, str_toList]
  have HCS : Hid (C.size ≤ maxLen) := hide (by rw [hC, str_size]; exact Nat.le_trans zC (by decide))
  have hCs : C.size ≤ 9 := by rw [hC, str_size]; exact zC
  have HM := hide hM
  obtain ⟨D, hD⟩ : ∃ D, D = (⟨(Lib.trimPrefix C.data.toList [35]).toArray⟩ : ByteArray) := ⟨_, rfl⟩
  have hDt : D.data.toList = Lib.trimPrefix C.data.toList [35] := by rw [hD]
  have hpre := fun w1 => Tryz.strings_CutPrefix C ⟨#[35]⟩ w1
  rw [show (⟨#[35]⟩ : ByteArray).data.toList = [35] from rfl, ← hD] at hpre
  by_cases hz : R.size < 9
  · have m1 : decide ((R.size : Int) < 9) = true := decide_eq_true (by omega)
    have mn : min (R.size : Int) 9 = R.size := by omega
    obtain ⟨N, hN⟩ : ∃ N, N = R := ⟨_, rfl⟩
    have hNt : N.data.toList = R.data.toList.take 9 := by rw [hN, List.take_of_length_le (by rw [toList_length]; omega)]
    have hcut := fun w1 => strCut_any N 59 w1 (by rw [← toList_length, hNt]; exact Nat.le_trans (List.length_take_le _ _) (by decide))
    simp only [cutV] at hcut
    rw [hNt, ← hC, hN] at hcut
    cases hp : Lib.hasPrefix C.data.toList [35]
    · have HP : Hid (Lib.hasPrefix C.data.toList [35] = false) := hide hp
      rw [hp] at hpre
      have HPRE := hide hpre
      have hsg : sgn C.data.toList = nameN C.data.toList := by unfold sgn; rw [hp, if_neg (by decide)]
      cases hsn : nameN C.data.toList with
      | none =>
        rw [hsn] at hsg
        have HNM := hide hsn
        cases hend : hasC 59 (R.data.toList.take 9) with
        | false =>
          have HR : Hid (refN R.data.toList = (0, 0)) := hide (by unfold refN; rw [← hCt, hsg, hend])
          rw [hend] at hcut
          have HCUT := hide hcut
          clear hcut hsg hsn hend hp hpre hT hU hv hev hM hC hCt hDt hD hN hNt zC
          go_enter Tryz.func43, Tryz.ntmps43
          go_wp2_with (first | (go_at_call 42; with_reducible refine (HCUT.out _).mono ?_; rintro e w1 ⟨rfl, hb1⟩; have HB1 := hide hb1; clear hb1) | (go_at_call 47; with_reducible refine (HPRE.out _).mono ?_; rintro e wp ⟨rfl, hwp⟩; obtain rfl := hwp) | (at_lookup; refine wpList_sm_look rfl _ _ rfl b 16 nameN rfl (HM.out.kept HB1.out) C HCS.out rfl ?_; rw [HNM.out]))
          go_ret2
          exact ⟨by rw [HR.out]; rfl, HB1.out⟩
        | true =>
          have HR : Hid (refN R.data.toList = (0, 0)) := hide (by unfold refN; rw [← hCt, hsg, hend])
          rw [hend] at hcut
          have HCUT := hide hcut
          clear hcut hsg hsn hend hp hpre hT hU hv hev hM hC hCt hDt hD hN hNt zC
          go_enter Tryz.func43, Tryz.ntmps43
          go_wp2_with (first | (go_at_call 42; with_reducible refine (HCUT.out _).mono ?_; rintro e w1 ⟨rfl, hb1⟩; have HB1 := hide hb1; clear hb1) | (go_at_call 47; with_reducible refine (HPRE.out _).mono ?_; rintro e wp ⟨rfl, hwp⟩; obtain rfl := hwp) | (at_lookup; refine wpList_sm_look rfl _ _ rfl b 16 nameN rfl (HM.out.kept HB1.out) C HCS.out rfl ?_; rw [HNM.out]))
          go_ret2
          exact ⟨by rw [HR.out]; rfl, HB1.out⟩
      | some x =>
        rw [hsn] at hsg
        have HNM := hide hsn
        cases hend : hasC 59 (R.data.toList.take 9) with
        | false =>
          have HR : Hid (refN R.data.toList = (0, 0)) := hide (by unfold refN; rw [← hCt, hsg, hend])
          rw [hend] at hcut
          have HCUT := hide hcut
          clear hcut hsg hsn hend hp hpre hT hU hv hev hM hC hCt hDt hD hN hNt zC
          go_enter Tryz.func43, Tryz.ntmps43
          go_wp2_with (first | (go_at_call 42; with_reducible refine (HCUT.out _).mono ?_; rintro e w1 ⟨rfl, hb1⟩; have HB1 := hide hb1; clear hb1) | (go_at_call 47; with_reducible refine (HPRE.out _).mono ?_; rintro e wp ⟨rfl, hwp⟩; obtain rfl := hwp) | (at_lookup; refine wpList_sm_look rfl _ _ rfl b 16 nameN rfl (HM.out.kept HB1.out) C HCS.out rfl ?_; rw [HNM.out]))
          go_ret2
          exact ⟨by rw [HR.out]; rfl, HB1.out⟩
        | true =>
          have HR : Hid (refN R.data.toList = (x, C.size + 1)) := hide (by unfold refN; rw [← hCt, hsg, hend]; simp only [toList_length])
          rw [hend] at hcut
          have HCUT := hide hcut
          clear hcut hsg hsn hend hp hpre hT hU hv hev hM hC hCt hDt hD hN hNt zC
          go_enter Tryz.func43, Tryz.ntmps43
          go_wp2_with (first | (go_at_call 42; with_reducible refine (HCUT.out _).mono ?_; rintro e w1 ⟨rfl, hb1⟩; have HB1 := hide hb1; clear hb1) | (go_at_call 47; with_reducible refine (HPRE.out _).mono ?_; rintro e wp ⟨rfl, hwp⟩; obtain rfl := hwp) | (at_lookup; refine wpList_sm_look rfl _ _ rfl b 16 nameN rfl (HM.out.kept HB1.out) C HCS.out rfl ?_; rw [HNM.out]))
          go_ret2
          exact ⟨by rw [HR.out]; rfl, HB1.out⟩
    · have HP : Hid (Lib.hasPrefix C.data.toList [35] = true) := hide hp
      rw [hp] at hpre
      have HPRE := hide hpre
      obtain ⟨nm, hnm⟩ : ∃ nm, nameN C.data.toList = nm := ⟨_, rfl⟩
      have HNM := hide hnm
      have hsg : sgn C.data.toList = byN D.data.toList := by unfold sgn; rw [hp, if_pos rfl, hDt]
      have hds : D.size ≤ 8 := dig_size hp hDt (by rw [← hCt] at zC; rw [toList_length] at zC; exact zC)
      have hnum := fun w1 (hb : Below w.heap.size w w1) => byNumber_any D ev w1 hds (hT.below hb hT.lt) (tabs_kept hU hb) ((hb.cell (p := ⟨1, 0, none⟩) (World.block_lt_of_cell? _ _ hv)).trans hv) hev
      cases hsn : byN D.data.toList with
      | none =>
        rw [hsn] at hsg
        rw [hsn] at hnum
        simp only [entV] at hnum
        have HNUM := hide hnum
        cases hend : hasC 59 (R.data.toList.take 9) with
        | false =>
          have HR : Hid (refN R.data.toList = (0, 0)) := hide (by unfold refN; rw [← hCt, hsg, hend])
          rw [hend] at hcut
          have HCUT := hide hcut
          clear hcut hsg hsn hend hp hpre hT hU hv hev hM hC hCt hDt hD hN hNt zC hnm hnum hds
          go_enter Tryz.func43, Tryz.ntmps43
          go_wp2_with (first | (go_at_call 42; with_reducible refine (HCUT.out _).mono ?_; rintro e w1 ⟨rfl, hb1⟩; have HB1 := hide hb1; clear hb1) | (go_at_call 47; with_reducible refine (HPRE.out _).mono ?_; rintro e wp ⟨rfl, hwp⟩; obtain rfl := hwp) | (at_lookup; refine wpList_sm_look rfl _ _ rfl b 16 nameN rfl (HM.out.kept HB1.out) C HCS.out rfl ?_; rw [HNM.out]) | (go_at_call 69; with_reducible refine (HNUM.out _ HB1.out).mono ?_; rintro e w2 ⟨rfl, hb2⟩; have HB2 := hide (HB1.out.trans (hb2.mono HB1.out.size)); clear hb2))
          go_ret2
          exact ⟨by rw [HR.out]; rfl, HB2.out⟩
        | true =>
          have HR : Hid (refN R.data.toList = (0, 0)) := hide (by unfold refN; rw [← hCt, hsg, hend])
          rw [hend] at hcut
          have HCUT := hide hcut
          clear hcut hsg hsn hend hp hpre hT hU hv hev hM hC hCt hDt hD hN hNt zC hnm hnum hds
          go_enter Tryz.func43, Tryz.ntmps43
          go_wp2_with (first | (go_at_call 42; with_reducible refine (HCUT.out _).mono ?_; rintro e w1 ⟨rfl, hb1⟩; have HB1 := hide hb1; clear hb1) | (go_at_call 47; with_reducible refine (HPRE.out _).mono ?_; rintro e wp ⟨rfl, hwp⟩; obtain rfl := hwp) | (at_lookup; refine wpList_sm_look rfl _ _ rfl b 16 nameN rfl (HM.out.kept HB1.out) C HCS.out rfl ?_; rw [HNM.out]) | (go_at_call 69; with_reducible refine (HNUM.out _ HB1.out).mono ?_; rintro e w2 ⟨rfl, hb2⟩; have HB2 := hide (HB1.out.trans (hb2.mono HB1.out.size)); clear hb2))
          go_ret2
          exact ⟨by rw [HR.out]; rfl, HB2.out⟩
      | some x =>
        rw [hsn] at hsg
        rw [hsn] at hnum
        simp only [entV] at hnum
        have HNUM := hide hnum
        cases hend : hasC 59 (R.data.toList.take 9) with
        | false =>
          have HR : Hid (refN R.data.toList = (0, 0)) := hide (by unfold refN; rw [← hCt, hsg, hend])
          rw [hend] at hcut
          have HCUT := hide hcut
          clear hcut hsg hsn hend hp hpre hT hU hv hev hM hC hCt hDt hD hN hNt zC hnm hnum hds
          go_enter Tryz.func43, Tryz.ntmps43
          go_wp2_with (first | (go_at_call 42; with_reducible refine (HCUT.out _).mono ?_; rintro e w1 ⟨rfl, hb1⟩; have HB1 := hide hb1; clear hb1) | (go_at_call 47; with_reducible refine (HPRE.out _).mono ?_; rintro e wp ⟨rfl, hwp⟩; obtain rfl := hwp) | (at_lookup; refine wpList_sm_look rfl _ _ rfl b 16 nameN rfl (HM.out.kept HB1.out) C HCS.out rfl ?_; rw [HNM.out]) | (go_at_call 69; with_reducible refine (HNUM.out _ HB1.out).mono ?_; rintro e w2 ⟨rfl, hb2⟩; have HB2 := hide (HB1.out.trans (hb2.mono HB1.out.size)); clear hb2))
          go_ret2
          exact ⟨by rw [HR.out]; rfl, HB2.out⟩
        | true =>
          have HR : Hid (refN R.data.toList = (x, C.size + 1)) := hide (by unfold refN; rw [← hCt, hsg, hend]; simp only [toList_length])
          rw [hend] at hcut
          have HCUT := hide hcut
          clear hcut hsg hsn hend hp hpre hT hU hv hev hM hC hCt hDt hD hN hNt zC hnm hnum hds
          go_enter Tryz.func43, Tryz.ntmps43
          go_wp2_with (first | (go_at_call 42; with_reducible refine (HCUT.out _).mono ?_; rintro e w1 ⟨rfl, hb1⟩; have HB1 := hide hb1; clear hb1) | (go_at_call 47; with_reducible refine (HPRE.out _).mono ?_; rintro e wp ⟨rfl, hwp⟩; obtain rfl := hwp) | (at_lookup; refine wpList_sm_look rfl _ _ rfl b 16 nameN rfl (HM.out.kept HB1.out) C HCS.out rfl ?_; rw [HNM.out]) | (go_at_call 69; with_reducible refine (HNUM.out _ HB1.out).mono ?_; rintro e w2 ⟨rfl, hb2⟩; have HB2 := hide (HB1.out.trans (hb2.mono HB1.out.size)); clear hb2))
          go_ret2
          exact ⟨by rw [HR.out]; rfl, HB2.out⟩
  · have m1 : decide ((R.size : Int) < 9) = false := decide_eq_false (by omega)
    have mn : min (R.size : Int) 9 = 9 := by omega
    have m4 : (9 : Int) ≤ R.size := by omega
    obtain ⟨N, hN⟩ : ∃ N, N = R.extract 0 9 := ⟨_, rfl⟩
    have hNt : N.data.toList = R.data.toList.take 9 := by rw [hN, extract_list, List.drop_zero]
    have hcut := fun w1 => strCut_any N 59 w1 (by rw [← toList_length, hNt]; exact Nat.le_trans (List.length_take_le _ _) (by decide))
    simp only [cutV] at hcut
    rw [hNt, ← hC, hN] at hcut
    cases hp : Lib.hasPrefix C.data.toList [35]
    · have HP : Hid (Lib.hasPrefix C.data.toList [35] = false) := hide hp
      rw [hp] at hpre
      have HPRE := hide hpre
      have hsg : sgn C.data.toList = nameN C.data.toList := by unfold sgn; rw [hp, if_neg (by decide)]
      cases hsn : nameN C.data.toList with
      | none =>
        rw [hsn] at hsg
        have HNM := hide hsn
        cases hend : hasC 59 (R.data.toList.take 9) with
        | false =>
          have HR : Hid (refN R.data.toList = (0, 0)) := hide (by unfold refN; rw [← hCt, hsg, hend])
          rw [hend] at hcut
          have HCUT := hide hcut
          clear hcut hsg hsn hend hp hpre hT hU hv hev hM hC hCt hDt hD hN hNt zC
          go_enter Tryz.func43, Tryz.ntmps43
          go_wp2_with (first | (go_at_call 42; with_reducible refine (HCUT.out _).mono ?_; rintro e w1 ⟨rfl, hb1⟩; have HB1 := hide hb1; clear hb1) | (go_at_call 47; with_reducible refine (HPRE.out _).mono ?_; rintro e wp ⟨rfl, hwp⟩; obtain rfl := hwp) | (at_lookup; refine wpList_sm_look rfl _ _ rfl b 16 nameN rfl (HM.out.kept HB1.out) C HCS.out rfl ?_; rw [HNM.out]))
          go_ret2
          exact ⟨by rw [HR.out]; rfl, HB1.out⟩
        | true =>
          have HR : Hid (refN R.data.toList = (0, 0)) := hide (by unfold refN; rw [← hCt, hsg, hend])
          rw [hend] at hcut
          have HCUT := hide hcut
          clear hcut hsg hsn hend hp hpre hT hU hv hev hM hC hCt hDt hD hN hNt zC
          go_enter Tryz.func43, Tryz.ntmps43
          go_wp2_with (first | (go_at_call 42; with_reducible refine (HCUT.out _).mono ?_; rintro e w1 ⟨rfl, hb1⟩; have HB1 := hide hb1; clear hb1) | (go_at_call 47; with_reducible refine (HPRE.out _).mono ?_; rintro e wp ⟨rfl, hwp⟩; obtain rfl := hwp) | (at_lookup; refine wpList_sm_look rfl _ _ rfl b 16 nameN rfl (HM.out.kept HB1.out) C HCS.out rfl ?_; rw [HNM.out]))
          go_ret2
          exact ⟨by rw [HR.out]; rfl, HB1.out⟩
      | some x =>
        rw [hsn] at hsg
        have HNM := hide hsn
        cases hend : hasC 59 (R.data.toList.take 9) with
        | false =>
          have HR : Hid (refN R.data.toList = (0, 0)) := hide (by unfold refN; rw [← hCt, hsg, hend])
          rw [hend] at hcut
          have HCUT := hide hcut
          clear hcut hsg hsn hend hp hpre hT hU hv hev hM hC hCt hDt hD hN hNt zC
          go_enter Tryz.func43, Tryz.ntmps43
          go_wp2_with (first | (go_at_call 42; with_reducible refine (HCUT.out _).mono ?_; rintro e w1 ⟨rfl, hb1⟩; have HB1 := hide hb1; clear hb1) | (go_at_call 47; with_reducible refine (HPRE.out _).mono ?_; rintro e wp ⟨rfl, hwp⟩; obtain rfl := hwp) | (at_lookup; refine wpList_sm_look rfl _ _ rfl b 16 nameN rfl (HM.out.kept HB1.out) C HCS.out rfl ?_; rw [HNM.out]))
          go_ret2
          exact ⟨by rw [HR.out]; rfl, HB1.out⟩
        | true =>
          have HR : Hid (refN R.data.toList = (x, C.size + 1)) := hide (by unfold refN; rw [← hCt, hsg, hend]; simp only [toList_length])
          rw [hend] at hcut
          have HCUT := hide hcut
          clear hcut hsg hsn hend hp hpre hT hU hv hev hM hC hCt hDt hD hN hNt zC
          go_enter Tryz.func43, Tryz.ntmps43
          go_wp2_with (first | (go_at_call 42; with_reducible refine (HCUT.out _).mono ?_; rintro e w1 ⟨rfl, hb1⟩; have HB1 := hide hb1; clear hb1) | (go_at_call 47; with_reducible refine (HPRE.out _).mono ?_; rintro e wp ⟨rfl, hwp⟩; obtain rfl := hwp) | (at_lookup; refine wpList_sm_look rfl _ _ rfl b 16 nameN rfl (HM.out.kept HB1.out) C HCS.out rfl ?_; rw [HNM.out]))
          go_ret2
          exact ⟨by rw [HR.out]; rfl, HB1.out⟩
    · have HP : Hid (Lib.hasPrefix C.data.toList [35] = true) := hide hp
      rw [hp] at hpre
      have HPRE := hide hpre
      obtain ⟨nm, hnm⟩ : ∃ nm, nameN C.data.toList = nm := ⟨_, rfl⟩
      have HNM := hide hnm
      have hsg : sgn C.data.toList = byN D.data.toList := by unfold sgn; rw [hp, if_pos rfl, hDt]
      have hds : D.size ≤ 8 := dig_size hp hDt (by rw [← hCt] at zC; rw [toList_length] at zC; exact zC)
      have hnum := fun w1 (hb : Below w.heap.size w w1) => byNumber_any D ev w1 hds (hT.below hb hT.lt) (tabs_kept hU hb) ((hb.cell (p := ⟨1, 0, none⟩) (World.block_lt_of_cell? _ _ hv)).trans hv) hev
      cases hsn : byN D.data.toList with
      | none =>
        rw [hsn] at hsg
        rw [hsn] at hnum
        simp only [entV] at hnum
        have HNUM := hide hnum
        cases hend : hasC 59 (R.data.toList.take 9) with
        | false =>
          have HR : Hid (refN R.data.toList = (0, 0)) := hide (by unfold refN; rw [← hCt, hsg, hend])
          rw [hend] at hcut
          have HCUT := hide hcut
          clear hcut hsg hsn hend hp hpre hT hU hv hev hM hC hCt hDt hD hN hNt zC hnm hnum hds
          go_enter Tryz.func43, Tryz.ntmps43
          go_wp2_with (first | (go_at_call 42; with_reducible refine (HCUT.out _).mono ?_; rintro e w1 ⟨rfl, hb1⟩; have HB1 := hide hb1; clear hb1) | (go_at_call 47; with_reducible refine (HPRE.out _).mono ?_; rintro e wp ⟨rfl, hwp⟩; obtain rfl := hwp) | (at_lookup; refine wpList_sm_look rfl _ _ rfl b 16 nameN rfl (HM.out.kept HB1.out) C HCS.out rfl ?_; rw [HNM.out]) | (go_at_call 69; with_reducible refine (HNUM.out _ HB1.out).mono ?_; rintro e w2 ⟨rfl, hb2⟩; have HB2 := hide (HB1.out.trans (hb2.mono HB1.out.size)); clear hb2))
          go_ret2
          exact ⟨by rw [HR.out]; rfl, HB2.out⟩
        | true =>
          have HR : Hid (refN R.data.toList = (0, 0)) := hide (by unfold refN; rw [← hCt, hsg, hend])
          rw [hend] at hcut
          have HCUT := hide hcut
          clear hcut hsg hsn hend hp hpre hT hU hv hev hM hC hCt hDt hD hN hNt zC hnm hnum hds
          go_enter Tryz.func43, Tryz.ntmps43
          go_wp2_with (first | (go_at_call 42; with_reducible refine (HCUT.out _).mono ?_; rintro e w1 ⟨rfl, hb1⟩; have HB1 := hide hb1; clear hb1) | (go_at_call 47; with_reducible refine (HPRE.out _).mono ?_; rintro e wp ⟨rfl, hwp⟩; obtain rfl := hwp) | (at_lookup; refine wpList_sm_look rfl _ _ rfl b 16 nameN rfl (HM.out.kept HB1.out) C HCS.out rfl ?_; rw [HNM.out]) | (go_at_call 69; with_reducible refine (HNUM.out _ HB1.out).mono ?_; rintro e w2 ⟨rfl, hb2⟩; have HB2 := hide (HB1.out.trans (hb2.mono HB1.out.size)); clear hb2))
          go_ret2
          exact ⟨by rw [HR.out]; rfl, HB2.out⟩
      | some x =>
        rw [hsn] at hsg
        rw [hsn] at hnum
        simp only [entV] at hnum
        have HNUM := hide hnum
        cases hend : hasC 59 (R.data.toList.take 9) with
        | false =>
          have HR : Hid (refN R.data.toList = (0, 0)) := hide (by unfold refN; rw [← hCt, hsg, hend])
          rw [hend] at hcut
          have HCUT := hide hcut
          clear hcut hsg hsn hend hp hpre hT hU hv hev hM hC hCt hDt hD hN hNt zC hnm hnum hds
          go_enter Tryz.func43, Tryz.ntmps43
          go_wp2_with (first | (go_at_call 42; with_reducible refine (HCUT.out _).mono ?_; rintro e w1 ⟨rfl, hb1⟩; have HB1 := hide hb1; clear hb1) | (go_at_call 47; with_reducible refine (HPRE.out _).mono ?_; rintro e wp ⟨rfl, hwp⟩; obtain rfl := hwp) | (at_lookup; refine wpList_sm_look rfl _ _ rfl b 16 nameN rfl (HM.out.kept HB1.out) C HCS.out rfl ?_; rw [HNM.out]) | (go_at_call 69; with_reducible refine (HNUM.out _ HB1.out).mono ?_; rintro e w2 ⟨rfl, hb2⟩; have HB2 := hide (HB1.out.trans (hb2.mono HB1.out.size)); clear hb2))
          go_ret2
          exact ⟨by rw [HR.out]; rfl, HB2.out⟩
        | true =>
          have HR : Hid (refN R.data.toList = (x, C.size + 1)) := hide (by unfold refN; rw [← hCt, hsg, hend]; simp only [toList_length])
          rw [hend] at hcut
          have HCUT := hide hcut
          clear hcut hsg hsn hend hp hpre hT hU hv hev hM hC hCt hDt hD hN hNt zC hnm hnum hds
          go_enter Tryz.func43, Tryz.ntmps43
          go_wp2_with (first | (go_at_call 42; with_reducible refine (HCUT.out _).mono ?_; rintro e w1 ⟨rfl, hb1⟩; have HB1 := hide hb1; clear hb1) | (go_at_call 47; with_reducible refine (HPRE.out _).mono ?_; rintro e wp ⟨rfl, hwp⟩; obtain rfl := hwp) | (at_lookup; refine wpList_sm_look rfl _ _ rfl b 16 nameN rfl (HM.out.kept HB1.out) C HCS.out rfl ?_; rw [HNM.out]) | (go_at_call 69; with_reducible refine (HNUM.out _ HB1.out).mono ?_; rintro e w2 ⟨rfl, hb2⟩; have HB2 := hide (HB1.out.trans (hb2.mono HB1.out.size)); clear hb2))
          go_ret2
          exact ⟨by rw [HR.out]; rfl, HB2.out⟩
end Go.Proofs.YtmojckphfbcibaaGreatDoor

