/- More of the first texts of this claim in one: each with its own head. No statement is proved here. -/
import Derived.Test.YtgokefodmjhhiaaGreatDoorBaseM
import Derived.Test.YtgokefodmjhhiaaGreatDoorBaseN
import Derived.Deep.Cut
import Derived.Test.YtgokefodmjhhiaaGreatDoorShelf
import Derived.Lib.Builder
import Derived.Laws.Externs
import Derived.Lib.UnsafeStr
import Derived.BigRegion
import Derived.Deep.RegionWith
/- WALK of chars.Known. No statement is proved here. -/
namespace Go.Proofs.YtgokefodmjhhiaaGreatDoor
open Go.RowKit
set_option linter.unusedVariables false
set_option linter.unusedSimpArgs false

set_option maxRecDepth 100000 in
set_option maxHeartbeats 4000000 in
theorem known_any (s : ByteArray) (w : World) (hs : s.size ≤ 70368744177664) :
    Calls Tryz.prog 201 #[.string s] w fun e w' => e = .returned (knownV (kindL s.data.toList)) ∧ Below w.heap.size w w' := by
  obtain ⟨x, hx⟩ : ∃ x, x = cleanL s.data.toList := ⟨_, rfl⟩
  obtain ⟨X, hX⟩ : ∃ X, X = str x := ⟨_, rfl⟩
  have HX : Hid (str (cleanL s.data.toList) = X) := hide (by rw [hX, hx])
  have hk : kindL s.data.toList = kindOf x := by rw [hx]; rfl
  rw [hk]
  have HXX := hide hX
  have HSZ : Hid ((str (Lib.trimS s.data.toList whiteSet)).size ≤ 70368744177664) := hide (by
    rw [str_size]
    have h := trimS_length s.data.toList whiteSet
    rw [toList_length] at h; omega)
  clear hx hX hk
  by_cases h0 : x = [117, 116, 102, 45, 56]
  · have HV : Hid (knownV (kindOf x) = .tuple #[.string ⟨#[117, 116, 102, 45, 56]⟩, .bool true]) := hide (by rw [h0, show kindOf [117, 116, 102, 45, 56] = 1 from by decide +kernel]; rfl)
    have t0 : (X.toList == [117, 116, 102, 45, 56]) = true := listT HXX.out h0
    clear h0
    go_enter Tryz.func201, Tryz.ntmps201
    go_wp2_with fail
    refine (trim_any s _ (by unfold maxLen; omega)).mono ?_
    rintro e w1 ⟨rfl, hb1⟩
    go_wp2_with fail
    refine (lower_any _ _ HSZ.out).mono ?_
    rintro e w2 ⟨rfl, hb2⟩
    rw [str_toList, show lowL (Lib.trimS s.data.toList whiteSet) = cleanL s.data.toList from rfl, HX.out]
    have hbb := hb1.trans (hb2.mono hb1.size)
    go_wp2_with fail
    go_ret2
    exact ⟨by rw [HV.out]; rfl, hbb⟩
  have t0 : (X.toList == [117, 116, 102, 45, 56]) = false := listF HXX.out h0
  by_cases h1 : x = [117, 116, 102, 56]
  · have HV : Hid (knownV (kindOf x) = .tuple #[.string ⟨#[117, 116, 102, 45, 56]⟩, .bool true]) := hide (by rw [h1, show kindOf [117, 116, 102, 56] = 1 from by decide +kernel]; rfl)
    have t1 : (X.toList == [117, 116, 102, 56]) = true := listT HXX.out h1
    clear h0 h1
    go_enter Tryz.func201, Tryz.ntmps201
    go_wp2_with fail
    refine (trim_any s _ (by unfold maxLen; omega)).mono ?_
    rintro e w1 ⟨rfl, hb1⟩
    go_wp2_with fail
    refine (lower_any _ _ HSZ.out).mono ?_
    rintro e w2 ⟨rfl, hb2⟩
    rw [str_toList, show lowL (Lib.trimS s.data.toList whiteSet) = cleanL s.data.toList from rfl, HX.out]
    have hbb := hb1.trans (hb2.mono hb1.size)
    go_wp2_with fail
    go_ret2
    exact ⟨by rw [HV.out]; rfl, hbb⟩
  have t1 : (X.toList == [117, 116, 102, 56]) = false := listF HXX.out h1
  by_cases h2 : x = [117, 110, 105, 99, 111, 100, 101, 45, 49, 45, 49, 45, 117, 116, 102, 45, 56]
  · have HV : Hid (knownV (kindOf x) = .tuple #[.string ⟨#[117, 116, 102, 45, 56]⟩, .bool true]) := hide (by rw [h2, show kindOf [117, 110, 105, 99, 111, 100, 101, 45, 49, 45, 49, 45, 117, 116, 102, 45, 56] = 1 from by decide +kernel]; rfl)
    have t2 : (X.toList == [117, 110, 105, 99, 111, 100, 101, 45, 49, 45, 49, 45, 117, 116, 102, 45, 56]) = true := listT HXX.out h2
    clear h0 h1 h2
    go_enter Tryz.func201, Tryz.ntmps201
    go_wp2_with fail
    refine (trim_any s _ (by unfold maxLen; omega)).mono ?_
    rintro e w1 ⟨rfl, hb1⟩
    go_wp2_with fail
    refine (lower_any _ _ HSZ.out).mono ?_
    rintro e w2 ⟨rfl, hb2⟩
    rw [str_toList, show lowL (Lib.trimS s.data.toList whiteSet) = cleanL s.data.toList from rfl, HX.out]
    have hbb := hb1.trans (hb2.mono hb1.size)
    go_wp2_with fail
    go_ret2
    exact ⟨by rw [HV.out]; rfl, hbb⟩
  have t2 : (X.toList == [117, 110, 105, 99, 111, 100, 101, 45, 49, 45, 49, 45, 117, 116, 102, 45, 56]) = false := listF HXX.out h2
  by_cases h3 : x = [119, 105, 110, 100, 111, 119, 115, 45, 49, 50, 53, 50]
  · have HV : Hid (knownV (kindOf x) = .tuple #[.string ⟨#[119, 105, 110, 100, 111, 119, 115, 45, 49, 50, 53, 50]⟩, .bool true]) := hide (by rw [h3, show kindOf [119, 105, 110, 100, 111, 119, 115, 45, 49, 50, 53, 50] = 2 from by decide +kernel]; rfl)
    have t3 : (X.toList == [119, 105, 110, 100, 111, 119, 115, 45, 49, 50, 53, 50]) = true := listT HXX.out h3
    clear h0 h1 h2 h3
    go_enter Tryz.func201, Tryz.ntmps201
    go_wp2_with fail
    refine (trim_any s _ (by unfold maxLen; omega)).mono ?_
    rintro e w1 ⟨rfl, hb1⟩
    go_wp2_with fail
    refine (lower_any _ _ HSZ.out).mono ?_
    rintro e w2 ⟨rfl, hb2⟩
    rw [str_toList, show lowL (Lib.trimS s.data.toList whiteSet) = cleanL s.data.toList from rfl, HX.out]
    have hbb := hb1.trans (hb2.mono hb1.size)
    go_wp2_with fail
    go_ret2
    exact ⟨by rw [HV.out]; rfl, hbb⟩
  have t3 : (X.toList == [119, 105, 110, 100, 111, 119, 115, 45, 49, 50, 53, 50]) = false := listF HXX.out h3
  by_cases h4 : x = [99, 112, 49, 50, 53, 50]
  · have HV : Hid (knownV (kindOf x) = .tuple #[.string ⟨#[119, 105, 110, 100, 111, 119, 115, 45, 49, 50, 53, 50]⟩, .bool true]) := hide (by rw [h4, show kindOf [99, 112, 49, 50, 53, 50] = 2 from by decide +kernel]; rfl)
    have t4 : (X.toList == [99, 112, 49, 50, 53, 50]) = true := listT HXX.out h4
    clear h0 h1 h2 h3 h4
    go_enter Tryz.func201, Tryz.ntmps201
    go_wp2_with fail
    refine (trim_any s _ (by unfold maxLen; omega)).mono ?_
    rintro e w1 ⟨rfl, hb1⟩
    go_wp2_with fail
    refine (lower_any _ _ HSZ.out).mono ?_
    rintro e w2 ⟨rfl, hb2⟩
    rw [str_toList, show lowL (Lib.trimS s.data.toList whiteSet) = cleanL s.data.toList from rfl, HX.out]
    have hbb := hb1.trans (hb2.mono hb1.size)
    go_wp2_with fail
    go_ret2
    exact ⟨by rw [HV.out]; rfl, hbb⟩
  have t4 : (X.toList == [99, 112, 49, 50, 53, 50]) = false := listF HXX.out h4
  by_cases h5 : x = [117, 115, 45, 97, 115, 99, 105, 105]
  · have HV : Hid (knownV (kindOf x) = .tuple #[.string ⟨#[119, 105, 110, 100, 111, 119, 115, 45, 49, 50, 53, 50]⟩, .bool true]) := hide (by rw [h5, show kindOf [117, 115, 45, 97, 115, 99, 105, 105] = 2 from by decide +kernel]; rfl)
    have t5 : (X.toList == [117, 115, 45, 97, 115, 99, 105, 105]) = true := listT HXX.out h5
    clear h0 h1 h2 h3 h4 h5
    go_enter Tryz.func201, Tryz.ntmps201
    go_wp2_with fail
    refine (trim_any s _ (by unfold maxLen; omega)).mono ?_
    rintro e w1 ⟨rfl, hb1⟩
    go_wp2_with fail
    refine (lower_any _ _ HSZ.out).mono ?_
    rintro e w2 ⟨rfl, hb2⟩
    rw [str_toList, show lowL (Lib.trimS s.data.toList whiteSet) = cleanL s.data.toList from rfl, HX.out]
    have hbb := hb1.trans (hb2.mono hb1.size)
    go_wp2_with fail
    go_ret2
    exact ⟨by rw [HV.out]; rfl, hbb⟩
  have t5 : (X.toList == [117, 115, 45, 97, 115, 99, 105, 105]) = false := listF HXX.out h5
  by_cases h6 : x = [97, 115, 99, 105, 105]
  · have HV : Hid (knownV (kindOf x) = .tuple #[.string ⟨#[119, 105, 110, 100, 111, 119, 115, 45, 49, 50, 53, 50]⟩, .bool true]) := hide (by rw [h6, show kindOf [97, 115, 99, 105, 105] = 2 from by decide +kernel]; rfl)
    have t6 : (X.toList == [97, 115, 99, 105, 105]) = true := listT HXX.out h6
    clear h0 h1 h2 h3 h4 h5 h6
    go_enter Tryz.func201, Tryz.ntmps201
    go_wp2_with fail
    refine (trim_any s _ (by unfold maxLen; omega)).mono ?_
    rintro e w1 ⟨rfl, hb1⟩
    go_wp2_with fail
    refine (lower_any _ _ HSZ.out).mono ?_
    rintro e w2 ⟨rfl, hb2⟩
    rw [str_toList, show lowL (Lib.trimS s.data.toList whiteSet) = cleanL s.data.toList from rfl, HX.out]
    have hbb := hb1.trans (hb2.mono hb1.size)
    go_wp2_with fail
    go_ret2
    exact ⟨by rw [HV.out]; rfl, hbb⟩
  have t6 : (X.toList == [97, 115, 99, 105, 105]) = false := listF HXX.out h6
  by_cases h7 : x = [105, 115, 111, 45, 56, 56, 53, 57, 45, 49]
  · have HV : Hid (knownV (kindOf x) = .tuple #[.string ⟨#[119, 105, 110, 100, 111, 119, 115, 45, 49, 50, 53, 50]⟩, .bool true]) := hide (by rw [h7, show kindOf [105, 115, 111, 45, 56, 56, 53, 57, 45, 49] = 2 from by decide +kernel]; rfl)
    have t7 : (X.toList == [105, 115, 111, 45, 56, 56, 53, 57, 45, 49]) = true := listT HXX.out h7
    clear h0 h1 h2 h3 h4 h5 h6 h7
    go_enter Tryz.func201, Tryz.ntmps201
    go_wp2_with fail
    refine (trim_any s _ (by unfold maxLen; omega)).mono ?_
    rintro e w1 ⟨rfl, hb1⟩
    go_wp2_with fail
    refine (lower_any _ _ HSZ.out).mono ?_
    rintro e w2 ⟨rfl, hb2⟩
    rw [str_toList, show lowL (Lib.trimS s.data.toList whiteSet) = cleanL s.data.toList from rfl, HX.out]
    have hbb := hb1.trans (hb2.mono hb1.size)
    go_wp2_with fail
    go_ret2
    exact ⟨by rw [HV.out]; rfl, hbb⟩
  have t7 : (X.toList == [105, 115, 111, 45, 56, 56, 53, 57, 45, 49]) = false := listF HXX.out h7
  by_cases h8 : x = [105, 115, 111, 56, 56, 53, 57, 45, 49]
  · have HV : Hid (knownV (kindOf x) = .tuple #[.string ⟨#[119, 105, 110, 100, 111, 119, 115, 45, 49, 50, 53, 50]⟩, .bool true]) := hide (by rw [h8, show kindOf [105, 115, 111, 56, 56, 53, 57, 45, 49] = 2 from by decide +kernel]; rfl)
    have t8 : (X.toList == [105, 115, 111, 56, 56, 53, 57, 45, 49]) = true := listT HXX.out h8
    clear h0 h1 h2 h3 h4 h5 h6 h7 h8
    go_enter Tryz.func201, Tryz.ntmps201
    go_wp2_with fail
    refine (trim_any s _ (by unfold maxLen; omega)).mono ?_
    rintro e w1 ⟨rfl, hb1⟩
    go_wp2_with fail
    refine (lower_any _ _ HSZ.out).mono ?_
    rintro e w2 ⟨rfl, hb2⟩
    rw [str_toList, show lowL (Lib.trimS s.data.toList whiteSet) = cleanL s.data.toList from rfl, HX.out]
    have hbb := hb1.trans (hb2.mono hb1.size)
    go_wp2_with fail
    go_ret2
    exact ⟨by rw [HV.out]; rfl, hbb⟩
  have t8 : (X.toList == [105, 115, 111, 56, 56, 53, 57, 45, 49]) = false := listF HXX.out h8
  by_cases h9 : x = [108, 97, 116, 105, 110, 49]
  · have HV : Hid (knownV (kindOf x) = .tuple #[.string ⟨#[119, 105, 110, 100, 111, 119, 115, 45, 49, 50, 53, 50]⟩, .bool true]) := hide (by rw [h9, show kindOf [108, 97, 116, 105, 110, 49] = 2 from by decide +kernel]; rfl)
    have t9 : (X.toList == [108, 97, 116, 105, 110, 49]) = true := listT HXX.out h9
    clear h0 h1 h2 h3 h4 h5 h6 h7 h8 h9
    go_enter Tryz.func201, Tryz.ntmps201
    go_wp2_with fail
    refine (trim_any s _ (by unfold maxLen; omega)).mono ?_
    rintro e w1 ⟨rfl, hb1⟩
    go_wp2_with fail
    refine (lower_any _ _ HSZ.out).mono ?_
    rintro e w2 ⟨rfl, hb2⟩
    rw [str_toList, show lowL (Lib.trimS s.data.toList whiteSet) = cleanL s.data.toList from rfl, HX.out]
    have hbb := hb1.trans (hb2.mono hb1.size)
    go_wp2_with fail
    go_ret2
    exact ⟨by rw [HV.out]; rfl, hbb⟩
  have t9 : (X.toList == [108, 97, 116, 105, 110, 49]) = false := listF HXX.out h9
  by_cases h10 : x = [108, 49]
  · have HV : Hid (knownV (kindOf x) = .tuple #[.string ⟨#[119, 105, 110, 100, 111, 119, 115, 45, 49, 50, 53, 50]⟩, .bool true]) := hide (by rw [h10, show kindOf [108, 49] = 2 from by decide +kernel]; rfl)
    have t10 : (X.toList == [108, 49]) = true := listT HXX.out h10
    clear h0 h1 h2 h3 h4 h5 h6 h7 h8 h9 h10
    go_enter Tryz.func201, Tryz.ntmps201
    go_wp2_with fail
    refine (trim_any s _ (by unfold maxLen; omega)).mono ?_
    rintro e w1 ⟨rfl, hb1⟩
    go_wp2_with fail
    refine (lower_any _ _ HSZ.out).mono ?_
    rintro e w2 ⟨rfl, hb2⟩
    rw [str_toList, show lowL (Lib.trimS s.data.toList whiteSet) = cleanL s.data.toList from rfl, HX.out]
    have hbb := hb1.trans (hb2.mono hb1.size)
    go_wp2_with fail
    go_ret2
    exact ⟨by rw [HV.out]; rfl, hbb⟩
  have t10 : (X.toList == [108, 49]) = false := listF HXX.out h10
  by_cases h11 : x = [117, 116, 102, 45, 49, 54, 108, 101]
  · have HV : Hid (knownV (kindOf x) = .tuple #[.string ⟨#[117, 116, 102, 45, 49, 54, 108, 101]⟩, .bool true]) := hide (by rw [h11, show kindOf [117, 116, 102, 45, 49, 54, 108, 101] = 3 from by decide +kernel]; rfl)
    have t11 : (X.toList == [117, 116, 102, 45, 49, 54, 108, 101]) = true := listT HXX.out h11
    clear h0 h1 h2 h3 h4 h5 h6 h7 h8 h9 h10 h11
    go_enter Tryz.func201, Tryz.ntmps201
    go_wp2_with fail
    refine (trim_any s _ (by unfold maxLen; omega)).mono ?_
    rintro e w1 ⟨rfl, hb1⟩
    go_wp2_with fail
    refine (lower_any _ _ HSZ.out).mono ?_
    rintro e w2 ⟨rfl, hb2⟩
    rw [str_toList, show lowL (Lib.trimS s.data.toList whiteSet) = cleanL s.data.toList from rfl, HX.out]
    have hbb := hb1.trans (hb2.mono hb1.size)
    go_wp2_with fail
    go_ret2
    exact ⟨by rw [HV.out]; rfl, hbb⟩
  have t11 : (X.toList == [117, 116, 102, 45, 49, 54, 108, 101]) = false := listF HXX.out h11
  by_cases h12 : x = [117, 116, 102, 45, 49, 54]
  · have HV : Hid (knownV (kindOf x) = .tuple #[.string ⟨#[117, 116, 102, 45, 49, 54, 108, 101]⟩, .bool true]) := hide (by rw [h12, show kindOf [117, 116, 102, 45, 49, 54] = 3 from by decide +kernel]; rfl)
    have t12 : (X.toList == [117, 116, 102, 45, 49, 54]) = true := listT HXX.out h12
    clear h0 h1 h2 h3 h4 h5 h6 h7 h8 h9 h10 h11 h12
    go_enter Tryz.func201, Tryz.ntmps201
    go_wp2_with fail
    refine (trim_any s _ (by unfold maxLen; omega)).mono ?_
    rintro e w1 ⟨rfl, hb1⟩
    go_wp2_with fail
    refine (lower_any _ _ HSZ.out).mono ?_
    rintro e w2 ⟨rfl, hb2⟩
    rw [str_toList, show lowL (Lib.trimS s.data.toList whiteSet) = cleanL s.data.toList from rfl, HX.out]
    have hbb := hb1.trans (hb2.mono hb1.size)
    go_wp2_with fail
    go_ret2
    exact ⟨by rw [HV.out]; rfl, hbb⟩
  have t12 : (X.toList == [117, 116, 102, 45, 49, 54]) = false := listF HXX.out h12
  by_cases h13 : x = [117, 110, 105, 99, 111, 100, 101]
  · have HV : Hid (knownV (kindOf x) = .tuple #[.string ⟨#[117, 116, 102, 45, 49, 54, 108, 101]⟩, .bool true]) := hide (by rw [h13, show kindOf [117, 110, 105, 99, 111, 100, 101] = 3 from by decide +kernel]; rfl)
    have t13 : (X.toList == [117, 110, 105, 99, 111, 100, 101]) = true := listT HXX.out h13
    clear h0 h1 h2 h3 h4 h5 h6 h7 h8 h9 h10 h11 h12 h13
    go_enter Tryz.func201, Tryz.ntmps201
    go_wp2_with fail
    refine (trim_any s _ (by unfold maxLen; omega)).mono ?_
    rintro e w1 ⟨rfl, hb1⟩
    go_wp2_with fail
    refine (lower_any _ _ HSZ.out).mono ?_
    rintro e w2 ⟨rfl, hb2⟩
    rw [str_toList, show lowL (Lib.trimS s.data.toList whiteSet) = cleanL s.data.toList from rfl, HX.out]
    have hbb := hb1.trans (hb2.mono hb1.size)
    go_wp2_with fail
    go_ret2
    exact ⟨by rw [HV.out]; rfl, hbb⟩
  have t13 : (X.toList == [117, 110, 105, 99, 111, 100, 101]) = false := listF HXX.out h13
  by_cases h14 : x = [117, 99, 115, 45, 50]
  · have HV : Hid (knownV (kindOf x) = .tuple #[.string ⟨#[117, 116, 102, 45, 49, 54, 108, 101]⟩, .bool true]) := hide (by rw [h14, show kindOf [117, 99, 115, 45, 50] = 3 from by decide +kernel]; rfl)
    have t14 : (X.toList == [117, 99, 115, 45, 50]) = true := listT HXX.out h14
    clear h0 h1 h2 h3 h4 h5 h6 h7 h8 h9 h10 h11 h12 h13 h14
    go_enter Tryz.func201, Tryz.ntmps201
    go_wp2_with fail
    refine (trim_any s _ (by unfold maxLen; omega)).mono ?_
    rintro e w1 ⟨rfl, hb1⟩
    go_wp2_with fail
    refine (lower_any _ _ HSZ.out).mono ?_
    rintro e w2 ⟨rfl, hb2⟩
    rw [str_toList, show lowL (Lib.trimS s.data.toList whiteSet) = cleanL s.data.toList from rfl, HX.out]
    have hbb := hb1.trans (hb2.mono hb1.size)
    go_wp2_with fail
    go_ret2
    exact ⟨by rw [HV.out]; rfl, hbb⟩
  have t14 : (X.toList == [117, 99, 115, 45, 50]) = false := listF HXX.out h14
  by_cases h15 : x = [117, 116, 102, 45, 49, 54, 98, 101]
  · have HV : Hid (knownV (kindOf x) = .tuple #[.string ⟨#[117, 116, 102, 45, 49, 54, 98, 101]⟩, .bool true]) := hide (by rw [h15, show kindOf [117, 116, 102, 45, 49, 54, 98, 101] = 4 from by decide +kernel]; rfl)
    have t15 : (X.toList == [117, 116, 102, 45, 49, 54, 98, 101]) = true := listT HXX.out h15
    clear h0 h1 h2 h3 h4 h5 h6 h7 h8 h9 h10 h11 h12 h13 h14 h15
    go_enter Tryz.func201, Tryz.ntmps201
    go_wp2_with fail
    refine (trim_any s _ (by unfold maxLen; omega)).mono ?_
    rintro e w1 ⟨rfl, hb1⟩
    go_wp2_with fail
    refine (lower_any _ _ HSZ.out).mono ?_
    rintro e w2 ⟨rfl, hb2⟩
    rw [str_toList, show lowL (Lib.trimS s.data.toList whiteSet) = cleanL s.data.toList from rfl, HX.out]
    have hbb := hb1.trans (hb2.mono hb1.size)
    go_wp2_with fail
    go_ret2
    exact ⟨by rw [HV.out]; rfl, hbb⟩
  have t15 : (X.toList == [117, 116, 102, 45, 49, 54, 98, 101]) = false := listF HXX.out h15
  by_cases h16 : x = [117, 110, 105, 99, 111, 100, 101, 102, 102, 102, 101]
  · have HV : Hid (knownV (kindOf x) = .tuple #[.string ⟨#[117, 116, 102, 45, 49, 54, 98, 101]⟩, .bool true]) := hide (by rw [h16, show kindOf [117, 110, 105, 99, 111, 100, 101, 102, 102, 102, 101] = 4 from by decide +kernel]; rfl)
    have t16 : (X.toList == [117, 110, 105, 99, 111, 100, 101, 102, 102, 102, 101]) = true := listT HXX.out h16
    clear h0 h1 h2 h3 h4 h5 h6 h7 h8 h9 h10 h11 h12 h13 h14 h15 h16
    go_enter Tryz.func201, Tryz.ntmps201
    go_wp2_with fail
    refine (trim_any s _ (by unfold maxLen; omega)).mono ?_
    rintro e w1 ⟨rfl, hb1⟩
    go_wp2_with fail
    refine (lower_any _ _ HSZ.out).mono ?_
    rintro e w2 ⟨rfl, hb2⟩
    rw [str_toList, show lowL (Lib.trimS s.data.toList whiteSet) = cleanL s.data.toList from rfl, HX.out]
    have hbb := hb1.trans (hb2.mono hb1.size)
    go_wp2_with fail
    go_ret2
    exact ⟨by rw [HV.out]; rfl, hbb⟩
  have t16 : (X.toList == [117, 110, 105, 99, 111, 100, 101, 102, 102, 102, 101]) = false := listF HXX.out h16
  have HV : Hid (knownV (kindOf x) = .tuple #[.string ⟨#[]⟩, .bool false]) := hide (by
    rw [kind_none (x := x) (by
      intro y hy
      simp only [labels, List.mem_cons, List.mem_nil_iff, or_false] at hy
      rcases hy with rfl | rfl | rfl | rfl | rfl | rfl | rfl | rfl | rfl | rfl | rfl | rfl | rfl | rfl | rfl | rfl | rfl
      all_goals assumption)]
    rfl)
  clear h0 h1 h2 h3 h4 h5 h6 h7 h8 h9 h10 h11 h12 h13 h14 h15 h16
  go_enter Tryz.func201, Tryz.ntmps201
  go_wp2_with fail
  refine (trim_any s _ (by unfold maxLen; omega)).mono ?_
  rintro e w1 ⟨rfl, hb1⟩
  go_wp2_with fail
  refine (lower_any _ _ HSZ.out).mono ?_
  rintro e w2 ⟨rfl, hb2⟩
  rw [str_toList, show lowL (Lib.trimS s.data.toList whiteSet) = cleanL s.data.toList from rfl, HX.out]
  have hbb := hb1.trans (hb2.mono hb1.size)
  go_wp2_with fail
  go_ret2
  exact ⟨by rw [HV.out]; rfl, hbb⟩
end Go.Proofs.YtgokefodmjhhiaaGreatDoor

/- WALKS of chars.Valid, fromWindows, number, firstSign, fromPairs. No statement is proved here. -/
namespace Go.Proofs.YtgokefodmjhhiaaGreatDoor
open Go.RowKit
set_option linter.unusedVariables false
set_option linter.unusedSimpArgs false

set_option maxHeartbeats 1000000 in
theorem valid_any (s : ByteArray) (w : World) (hs : s.size ≤ 1048576) :
    Calls Tryz.prog 204 #[.string s] w fun e w' => e = .returned (.string (str (validL s.data.toList))) ∧ Below w.heap.size w w' := by
  go_enter Tryz.func204, Tryz.ntmps204
  go_wp2_with (refine wpList_buf_make rfl _ _ rfl w.heap.size w (Below.refl _ _) (Nat.le_refl _) s.size s.size rfl rfl rfl (by omega) ?_; intro v0 w0 hb0)
  have hbz := hb0.2.2
  have hit : (w0.iter s 0).heap[w0.heap.size]? = some (Obj.stringIter s 0) := heap_alloc_new w0 _
  go_loopw [3] (fun v wr => ∃ (pos : Nat) (acc : List UInt8), pos ≤ s.size ∧ wr.heap[w0.heap.size]? = some (Obj.stringIter s pos) ∧ Buf w.heap.size v acc w wr ∧ acc.length ≤ 3 * pos ∧ acc ++ validL (s.data.toList.drop pos) = validL s.data.toList) (fun _ wr => s.size - wr.iterPos w0.heap.size)
  case atStart => exact ⟨0, [], Nat.zero_le _, hit, hb0.alloc _, Nat.le_refl _, by simp⟩
  case round =>
    obtain ⟨pos, acc, hpos, hk, hb, hacc, hd⟩ := hrel
    have HB := hide hb
    have HK := hide hk
    clear hb hk
    by_cases hlt : pos < s.size
    · have hnx := fun ty => Lib.run_next_any_at (P := Tryz.prog) wr w0.heap.size s pos ty HK.out hlt
      have hne : s.data.toList.drop pos ≠ [] := by rw [drop_cons s pos hlt]; simp
      have hsp := decL_spec _ hne
      have hst := vStep_pos' _ hne
      have hR := valid_round hd hne
      rw [List.drop_drop] at hR
      rw [decode_decL s pos hlt] at hnx
      rw [List.length_drop, toList_length] at hst
      generalize decL (s.data.toList.drop pos) = dl at hnx hsp
      obtain ⟨r, n⟩ := dl
      simp only at hsp hnx
      rw [← hsp.1, ← hsp.2.1] at hR
      rw [← hsp.1, ← hsp.2.1] at hst
      have hr := hsp.2.2
      clear hsp
      obtain ⟨hn1, hn2, hn3, hn4⟩ := hst
      have HR := hide hR
      have HI := hide (Lib.iterAt_heap wr w0.heap.size s pos (pos + n) HK.out)
      have HB1 := hide (HB.out.iterAt HK.out (by omega) (pos + n))
      clear hR hd hne
      go_wp2_with fail
      refine (appendRune_any w.heap.size u3 acc w _ HB1.out (r : Int) (by omega) (by omega) (by omega)).mono ?_
      rintro e w1 ⟨v1, rfl, hb1, hi1⟩
      have HB2 := hide hb1
      have HI2 := hide (hi1 _ _ _ HI.out)
      clear hb1 hi1
      go_wp2_with fail
      go_roundw
      case rel => exact ⟨pos + n, acc ++ _, by omega, HI2.out, HB2.out, by rw [List.length_append]; omega, HR.out⟩
      case measure =>
        have e1 : World.iterPos w1 w0.heap.size = pos + n := by unfold World.iterPos; rw [HI2.out]
        have e2 : World.iterPos wr w0.heap.size = pos := by unfold World.iterPos; rw [HK.out]
        rw [e1, e2]; omega
    · have hnx := fun ty => Lib.run_next_end_at (P := Tryz.prog) wr w0.heap.size s pos ty HK.out hlt
      have hcv := HB.out.convert
      go_wp2
      go_ret
      refine ⟨?_, HB.out.below⟩
      rw [drop_nil s pos (by omega), validL_nil, List.append_nil] at hd
      exact ret_str (by rw [hd])

/-- the table in memory -/
def Tab (w : World) : Prop := ∀ j : Nat, j < 32 → w.cell? ⟨3, j, none⟩ = some (.int .i32 (winTab.getD j 0))
theorem Tab.lt {w : World} (h : Tab w) : 3 < w.heap.size := by
  have := h 0 (by omega)
  rcases Nat.lt_or_ge 3 w.heap.size with h1 | h1
  · exact h1
  · unfold World.cell? at this
    rw [Array.getElem?_eq_none h1] at this; cases this
theorem Tab.below {B : Nat} {w w' : World} (h : Tab w) (hb : Below B w w') (hB : 3 < B) : Tab w' := fun j hj => by
  rw [← h j hj]
  exact hb.cell (by exact hB)

set_option maxHeartbeats 1000000 in
theorem fromWindows_any (s : ByteArray) (w : World) (hs : s.size ≤ 1048576) (hT : Tab w) :
    Calls Tryz.prog 202 #[.string s] w fun e w' => e = .returned (.string (str (winL s.data.toList))) ∧ Below w.heap.size w w' := by
  have HT := hide hT
  have h0 := hT.lt
  clear hT
  go_enter Tryz.func202, Tryz.ntmps202
  go_wp2_with (refine wpList_buf_make rfl _ _ rfl w.heap.size w (Below.refl _ _) (Nat.le_refl _) s.size s.size rfl rfl rfl (by omega) ?_; intro v0 w0 hb0)
  go_loopw [3, 12] (fun v i wr => ∃ (k : Nat) (acc : List UInt8), k ≤ s.size ∧ i = .int .i64 k ∧ Buf w.heap.size v acc w wr ∧ acc.length ≤ 3 * k ∧ acc ++ winL (s.data.toList.drop k) = winL s.data.toList) (fun _ i _ => s.size - (intOf i).toNat)
  case atStart => exact ⟨0, [], Nat.zero_le _, rfl, hb0, Nat.le_refl _, by simp⟩
  case round =>
    obtain ⟨k, acc, hk, rfl, hb, hacc, hd⟩ := hrel
    have HB := hide hb
    clear hb
    by_cases hlt : k < s.size
    · rw [drop_cons s k hlt, winL_cons, ← List.append_assoc] at hd
      have HR := hide hd
      have hcase := winR_case s[k]
      have hl3 := winR_length s[k]
      have hrg := winR_range s[k]
      have hbl := byte_lt s[k]
      generalize hc : s[k] = c at hd hcase hl3 hrg hbl
      rw [hc] at HR
      clear hd
      rcases hcase with ⟨c1, e⟩ | ⟨c1, c2, e⟩ | ⟨c1, e⟩
      · rw [e] at HR hl3
        clear e
        go_wp2_with fail
        refine (appendRune_any w.heap.size u3 acc w wr HB.out c.toNat (by omega) (by omega) (by omega)).mono ?_
        rintro e w1 ⟨v1, rfl, hb1, _⟩
        have HB1 := hide hb1
        clear hb1
        go_wp2_with fail
        go_roundw
        case rel => exact ⟨k + 1, acc ++ _, by omega, by go_num, HB1.out, by rw [List.length_append]; omega, HR.out⟩
        case measure => simp [intOf]; omega
      · have hcell := (HT.out.below HB.out.below h0) (c.toNat - 128) (by omega)
        rw [← e] at hcell
        have q1 : ((c.toNat : Int) - 128).toNat = c.toNat - 128 := by omega
        generalize winR c = rr at HR hl3 hrg hcell e
        clear e
        go_wp2_with fail
        refine (appendRune_any w.heap.size u3 acc w wr HB.out rr (by omega) (by omega) (by omega)).mono ?_
        rintro e w1 ⟨v1, rfl, hb1, _⟩
        have HB1 := hide hb1
        clear hb1
        go_wp2_with fail
        go_roundw
        case rel => exact ⟨k + 1, acc ++ _, by omega, by go_num, HB1.out, by rw [List.length_append]; omega, HR.out⟩
        case measure => simp [intOf]; omega
      · rw [e] at HR hl3
        clear e
        go_wp2_with fail
        refine (appendRune_any w.heap.size u3 acc w wr HB.out c.toNat (by omega) (by omega) (by omega)).mono ?_
        rintro e w1 ⟨v1, rfl, hb1, _⟩
        have HB1 := hide hb1
        clear hb1
        go_wp2_with fail
        go_roundw
        case rel => exact ⟨k + 1, acc ++ _, by omega, by go_num, HB1.out, by rw [List.length_append]; omega, HR.out⟩
        case measure => simp [intOf]; omega
    · have hcv := HB.out.convert
      go_wp2
      go_ret
      refine ⟨?_, HB.out.below⟩
      rw [drop_nil s k (by omega)] at hd
      rw [show winL [] = [] from rfl, List.append_nil] at hd
      exact ret_str (by rw [hd])
end Go.Proofs.YtgokefodmjhhiaaGreatDoor

/- WALKS of chars.number, firstSign, fromPairs. No statement is proved here. -/
namespace Go.Proofs.YtgokefodmjhhiaaGreatDoor
open Go.RowKit
set_option linter.unusedVariables false
set_option linter.unusedSimpArgs false

theorem or_bytes (a b : Nat) (ha : a < 256) (hb : b < 256) : bits .or .i32 ((a : Int) * 256) (b : Int) = ((256 * a + b : Nat) : Int) := by
  have h1 : (BitVec.ofInt 32 ((a : Int) * 256)).toNat = a * 256 := by
    rw [show (a : Int) * 256 = ((a * 256 : Nat) : Int) from by omega, BitVec.ofInt_natCast, BitVec.toNat_ofNat]; exact Nat.mod_eq_of_lt (by omega)
  have h2 : (BitVec.ofInt 32 (b : Int)).toNat = b := by
    rw [BitVec.ofInt_natCast, BitVec.toNat_ofNat]; exact Nat.mod_eq_of_lt (by omega)
  show IntKind.i32.wrap ((BitVec.ofInt 32 ((a : Int) * 256) ||| BitVec.ofInt 32 (b : Int)).toNat : Int) = _
  rw [BitVec.toNat_or, h1, h2]
  have e : a * 256 ||| b = 256 * a + b := by
    have := Nat.two_pow_add_eq_or_of_lt (i := 8) (b := b) (by omega) a
    rw [Nat.mul_comm a 256]
    exact this.symm
  rw [e]
  exact IntWalk.i32_in _ (by omega)

/-- the place of the higher byte -/
def hiAt (big : Bool) : Int := if big then 0 else 1
set_option maxHeartbeats 1000000 in
theorem number_any (s : ByteArray) (big : Bool) (w : World) (hs : s.size ≤ maxLen) (h2 : 1 < s.size) :
    Calls Tryz.prog 240 #[.string s, .int .i64 (hiAt big)] w fun e w' => e = .returned (.int .i32 (num big s[0] s[1])) ∧ Below w.heap.size w w' := by
  unfold maxLen at hs
  have ha := byte_lt s[0]
  have hb := byte_lt s[1]
  have i0 : (0 : Int) < s.size := by omega
  have i1 : (1 : Int) < s.size := by omega
  have n0 : 0 < s.size := by omega
  cases big
  · have ho := or_bytes s[1].toNat s[0].toNat hb ha
    show Calls _ _ #[.string s, .int .i64 1] _ _
    go_enter Tryz.func240, Tryz.ntmps240
    go_wp2_with fail
    go_region
    all_goals (try go_wp2)
    all_goals
      go_ret
      exact ⟨ret_int (by unfold num; simp), (Below.refl _ _).drew⟩
  · have ho := or_bytes s[0].toNat s[1].toNat ha hb
    show Calls _ _ #[.string s, .int .i64 0] _ _
    go_enter Tryz.func240, Tryz.ntmps240
    go_wp2_with fail
    go_region
    all_goals (try go_wp2)
    all_goals
      go_ret
      exact ⟨ret_int (by unfold num; simp), (Below.refl _ _).drew⟩
theorem number_list (s : ByteArray) (big : Bool) (a b : UInt8) (r : List UInt8) (w : World) (hs : s.size ≤ maxLen) (h : s.data.toList = a :: b :: r) :
    Calls Tryz.prog 240 #[.string s, .int .i64 (hiAt big)] w fun e w' => e = .returned (.int .i32 (num big a b)) ∧ Below w.heap.size w w' := by
  have hl := toList_length s
  rw [h] at hl
  simp only [List.length_cons] at hl
  have h1 : 1 < s.size := by omega
  have e := drop_cons s 0 (by omega)
  rw [List.drop_zero, drop_cons s 1 h1, h] at e
  injection e with e1 e
  injection e with e2 e
  have := number_any s big w hs h1
  rw [← e1, ← e2] at this
  exact this

/-- what firstSign answers -/
def fsV (big : Bool) (l : List UInt8) : Value := .tuple #[.int .i32 (fsS big l).1, .int .i64 (fsS big l).2]
theorem fsV_of {big : Bool} {l : List UInt8} {z : Int} {n : Nat} (h : fsS big l = (z, n)) : fsV big l = .tuple #[.int .i32 z, .int .i64 n] := by unfold fsV; rw [h]
set_option maxRecDepth 100000 in
set_option maxHeartbeats 2000000 in
theorem firstSign_any (s : ByteArray) (big : Bool) (w : World) (hs : s.size ≤ maxLen) (h2 : 1 < s.size) :
    Calls Tryz.prog 224 #[.string s, .int .i64 (hiAt big)] w fun e w' => e = .returned (fsV big s.data.toList) ∧ Below w.heap.size w w' := by
  have hs' := hs
  unfold maxLen at hs
  obtain ⟨a, b, r, hl⟩ : ∃ a b r, s.data.toList = a :: b :: r := by
    have e := drop_cons s 0 (by omega)
    rw [List.drop_zero, drop_cons s 1 h2] at e
    exact ⟨_, _, _, e⟩
  have hlen := toList_length s
  rw [hl] at hlen
  simp only [List.length_cons] at hlen
  have HN := hide (fun (w : World) => number_list s big a b r w hs' hl)
  have hlt := num_lt big a b
  obtain ⟨x, hx⟩ : ∃ x, x = num big a b := ⟨_, rfl⟩
  rw [hl]
  have hi : ∃ z, z = hiAt big := ⟨_, rfl⟩
  obtain ⟨z, hz⟩ := hi
  rw [← hz]
  have HZ := hide hz
  rw [← hz, ← hx] at HN
  rw [← hx] at hlt
  have HX := hide hx
  clear hx hz
  by_cases c1 : x < 55296
  · have HV := hide (fsV_of (big := big) (l := a :: b :: r) (z := x) (n := 2) (by rw [fsS, ← HX.out, if_pos (.inl c1)]))
    clear hlen
    go_enter Tryz.func224, Tryz.ntmps224
    go_wp2_with fail
    refine (HN.out _).mono ?_
    rintro e w1 ⟨rfl, hb1⟩
    go_wp2_with fail
    go_ret2
    exact ⟨by rw [HV.out]; rfl, hb1⟩
  by_cases c2 : 57344 ≤ x
  · have HV := hide (fsV_of (big := big) (l := a :: b :: r) (z := x) (n := 2) (by rw [fsS, ← HX.out, if_pos (.inr c2)]))
    clear hlen
    go_enter Tryz.func224, Tryz.ntmps224
    go_wp2_with fail
    refine (HN.out _).mono ?_
    rintro e w1 ⟨rfl, hb1⟩
    go_wp2_with fail
    go_ret2
    exact ⟨by rw [HV.out]; rfl, hb1⟩
  have c12 : ¬ (x < 55296 ∨ 57344 ≤ x) := by omega
  have t1 : decide ((x : Int) < 55296) = false := decide_eq_false (by omega)
  have t2 : decide ((57344 : Int) ≤ x) = false := decide_eq_false (by omega)
  have C12 := hide c12
  have K1 : Hid (55296 ≤ x) := hide (by omega)
  clear c12 c1 c2
  by_cases c3 : x < 56320
  · have t3 : decide ((x : Int) < 56320) = true := decide_eq_true (by omega)
    have C3 := hide c3
    clear c3
    by_cases c4 : 3 < s.size
    · have t4 : decide ((3 : Int) < s.size) = true := decide_eq_true (by omega)
      have s2 : (2 : Int) ≤ s.size := by omega
      obtain ⟨c, d, r', hr⟩ : ∃ c d r', r = c :: d :: r' := by
        match r, hlen with
        | c :: d :: r', _ => exact ⟨c, d, r', rfl⟩
        | [c], h => simp at h; omega
        | [], h => simp at h; omega
      subst hr
      have hx2 : (s.extract 2 s.size).data.toList = c :: d :: r' := by rw [extract_end, hl]; rfl
      have HN2 := hide (fun (w : World) => number_list (s.extract 2 s.size) big c d r' w (by have := extract_size_le s 2 s.size; unfold maxLen; omega) hx2)
      have hlt2 := num_lt big c d
      obtain ⟨y, hy⟩ : ∃ y, y = num big c d := ⟨_, rfl⟩
      rw [← HZ.out, ← hy] at HN2
      rw [← hy] at hlt2
      have HY := hide hy
      clear hy hx2 hl c4
      by_cases c5 : 56320 ≤ y ∧ y < 57344
      · have HV := hide (fsV_of (big := big) (l := a :: b :: c :: d :: r') (z := pairV x y) (n := 4) (by rw [fsS, ← HX.out, if_neg C12.out, if_pos C3.out, fsT, ← HY.out, if_pos c5]))
        have t5 : decide ((56320 : Int) ≤ y) = true := decide_eq_true (by omega)
        have t6 : decide ((y : Int) < 57344) = true := decide_eq_true (by omega)
        have k1 := K1.out
        have k3 := C3.out
        obtain ⟨k5, k6⟩ := c5
        clear hlen
        go_enter Tryz.func224, Tryz.ntmps224
        go_wp2_with fail
        refine (HN.out _).mono ?_
        rintro e w1 ⟨rfl, hb1⟩
        go_wp2_with fail
        refine (HN2.out _).mono ?_
        rintro e w2 ⟨rfl, hb2⟩
        go_upto_region 7 with (fail)
        clear t1 t2 t3 t4 t5 t6 hlt hlt2 h2 s2 hs'
        go_wp2_with fail
        go_ret2
        refine ⟨?_, hb1.trans (hb2.mono hb1.size)⟩
        rw [HV.out]
        show Ending.returned (.tuple #[.int .i32 _, .int .i64 _]) = _
        congr 5
        unfold pairV; omega
      · have HV := hide (fsV_of (big := big) (l := a :: b :: c :: d :: r') (z := 65533) (n := 2) (by rw [fsS, ← HX.out, if_neg C12.out, if_pos C3.out, fsT, ← HY.out, if_neg c5]))
        have c6 : y < 56320 ∨ (56320 ≤ y ∧ 57344 ≤ y) := by omega
        have c7 : decide ((56320 : Int) ≤ y) = false ∨ (decide ((56320 : Int) ≤ y) = true ∧ decide ((y : Int) < 57344) = false) := by
          rcases c6 with c | ⟨c, c'⟩
          · exact .inl (decide_eq_false (by omega))
          · exact .inr ⟨decide_eq_true (by omega), decide_eq_false (by omega)⟩
        clear c5 c6
        rcases c7 with t5 | ⟨t5, t6⟩
        all_goals
          clear hlen
          go_enter Tryz.func224, Tryz.ntmps224
          go_wp2_with fail
          refine (HN.out _).mono ?_
          rintro e w1 ⟨rfl, hb1⟩
          go_wp2_with fail
          refine (HN2.out _).mono ?_
          rintro e w2 ⟨rfl, hb2⟩
          go_wp2_with fail
          go_ret2
          exact ⟨by rw [HV.out]; rfl, hb1.trans (hb2.mono hb1.size)⟩
    · have HV := hide (fsV_of (big := big) (l := a :: b :: r) (z := 65533) (n := 2) (by
        rw [fsS, ← HX.out, if_neg C12.out, if_pos C3.out]
        match r, hlen with
        | [], _ => rfl
        | [_], _ => rfl
        | _ :: _ :: r', h => simp at h; omega))
      have t4 : decide ((3 : Int) < s.size) = false := decide_eq_false (by omega)
      clear c4
      clear hlen
      go_enter Tryz.func224, Tryz.ntmps224
      go_wp2_with fail
      refine (HN.out _).mono ?_
      rintro e w1 ⟨rfl, hb1⟩
      go_wp2_with fail
      go_ret2
      exact ⟨by rw [HV.out]; rfl, hb1⟩
  · have HV := hide (fsV_of (big := big) (l := a :: b :: r) (z := 65533) (n := 2) (by rw [fsS, ← HX.out, if_neg C12.out, if_neg c3]))
    have t3 : decide ((x : Int) < 56320) = false := decide_eq_false (by omega)
    clear c3
    clear hlen
    go_enter Tryz.func224, Tryz.ntmps224
    go_wp2_with fail
    refine (HN.out _).mono ?_
    rintro e w1 ⟨rfl, hb1⟩
    go_wp2_with fail
    go_ret2
    exact ⟨by rw [HV.out]; rfl, hb1⟩

def szOf4 : Value → Nat
  | .string t => t.size
  | _ => 0
set_option maxRecDepth 100000 in
set_option maxHeartbeats 2000000 in
theorem fromPairs_any (s : ByteArray) (big : Bool) (w : World) (hs : s.size ≤ 1048576) :
    Calls Tryz.prog 203 #[.string s, .int .i64 (hiAt big)] w fun e w' => e = .returned (.string (str (pairsL big s.data.toList))) ∧ Below w.heap.size w w' := by
  have HFS := hide (fun (t : ByteArray) (w : World) (ht : t.size ≤ maxLen) (h2 : 1 < t.size) => firstSign_any t big w ht h2)
  obtain ⟨z, hz⟩ : ∃ z, z = hiAt big := ⟨_, rfl⟩
  rw [← hz] at HFS ⊢
  clear hz
  go_enter Tryz.func203, Tryz.ntmps203
  go_wp2_with (refine wpList_buf_make rfl _ _ rfl w.heap.size w (Below.refl _ _) (Nat.le_refl _) s.size s.size rfl rfl rfl (by omega) ?_; intro v0 w0 hb0)
  go_loopw [0, 5] (fun x v wr => ∃ (t : ByteArray) (acc : List UInt8), x = .string t ∧ Buf w.heap.size v acc w wr ∧ acc.length + 3 * t.size ≤ 3 * s.size ∧ acc ++ pairsL big t.data.toList = pairsL big s.data.toList) (fun x _ _ => szOf4 x)
  case atStart => exact ⟨s, [], rfl, hb0, by simp, by simp⟩
  case round =>
    obtain ⟨t, acc, rfl, hb, hacc, hd⟩ := hrel
    have HB := hide hb
    clear hb
    by_cases hlt : 1 < t.size
    · obtain ⟨p1, p2, p3, p4, p5⟩ := pairs_step big t.data.toList (by rw [toList_length]; omega)
      have p6 := runeL_length (fsS big t.data.toList).1
      rw [p1, ← List.append_assoc] at hd
      rw [toList_length] at p3
      have hF : fsV big t.data.toList = .tuple #[.int .i32 (fsS big t.data.toList).1, .int .i64 (fsS big t.data.toList).2] := rfl
      generalize fsS big t.data.toList = st at hd hF p2 p3 p4 p5 p6
      obtain ⟨r, n⟩ := st
      simp only at hd hF p2 p3 p4 p5 p6
      have p7 : (runeL r).length ≤ 3 * n := by omega
      have p8 : 2 ≤ n := by omega
      have HR := hide hd
      have HF := hide hF
      clear hd hF p1 p2 p6
      go_wp2_with fail
      refine (HFS.out t _ (by unfold maxLen; omega) hlt).mono ?_
      rintro e w1 ⟨rfl, hb1⟩
      rw [HF.out]
      have HB1 := hide (HB.out.kept hb1)
      go_wp2_with fail
      refine (appendRune_any w.heap.size u5 acc w _ HB1.out r (by omega) (by omega) (by omega)).mono ?_
      rintro e w2 ⟨v2, rfl, hb2, _⟩
      have HB2 := hide hb2
      clear hb2
      go_wp2_with fail
      go_roundw
      case rel => exact ⟨t.extract n t.size, acc ++ _, rfl, HB2.out, by rw [ByteArray.size_extract, List.length_append]; omega, by rw [extract_end]; exact HR.out⟩
      case measure => simp [szOf4]; omega
    · have hl := toList_length t
      have hp := pairs_short big t.data.toList (by omega)
      rw [hl] at hp
      by_cases h1 : 0 < t.size
      · rw [hp, if_pos (by omega)] at hd
        have HR := hide hd
        clear hd hp hl
        go_wp2_with fail
        refine (appendRune_any w.heap.size u5 acc w _ HB.out 65533 (by omega) (by omega) (by omega)).mono ?_
        rintro e w2 ⟨v2, rfl, hb2, _⟩
        rw [runeL_bad'] at hb2
        have HB2 := hide hb2
        have hcv := hb2.convert
        clear hb2
        go_wp2_with fail
        go_ret
        exact ⟨ret_str (by rw [HR.out]), HB2.out.below⟩
      · rw [hp, if_neg (by omega), List.append_nil] at hd
        have HR := hide hd
        have hcv := HB.out.convert
        clear hd hp hl
        go_wp2_with fail
        go_ret
        exact ⟨ret_str (by rw [HR.out]), HB.out.below⟩
end Go.Proofs.YtgokefodmjhhiaaGreatDoor

/- WALK of chars.Decode. No statement is proved here. -/
namespace Go.Proofs.YtgokefodmjhhiaaGreatDoor
open Go.RowKit
set_option linter.unusedVariables false
set_option linter.unusedSimpArgs false

/-- what Decode answers -/
def decV (k : Nat) (l : List UInt8) : Value := .tuple #[.string (str (decodeL k l)), .bool (decide (0 < k))]
set_option maxHeartbeats 2000000 in
theorem charsDecode_any (label s : ByteArray) (w : World) (hl : label.size ≤ 70368744177664) (hs : s.size ≤ 1048576) (hT : Tab w) :
    Calls Tryz.prog 172 #[.string label, .string s] w fun e w' => e = .returned (decV (kindL label.data.toList) s.data.toList) ∧ Below w.heap.size w w' := by
  have HT := hide hT
  have H0 := hide hT.lt
  clear hT
  have HK := hide (fun (w : World) => known_any label w hl)
  have hk5 := kind_lt label.data.toList
  generalize kindL label.data.toList = k at HK hk5
  have hk : k = 0 ∨ k = 1 ∨ k = 2 ∨ k = 3 ∨ k = 4 := by omega
  clear hk5
  have KV0 : Hid (knownV 0 = .tuple #[.string ⟨#[]⟩, .bool false]) := hide rfl
  have KV1 : Hid (knownV 1 = .tuple #[.string ⟨#[117, 116, 102, 45, 56]⟩, .bool true]) := hide rfl
  have KV2 : Hid (knownV 2 = .tuple #[.string ⟨#[119, 105, 110, 100, 111, 119, 115, 45, 49, 50, 53, 50]⟩, .bool true]) := hide rfl
  have KV3 : Hid (knownV 3 = .tuple #[.string ⟨#[117, 116, 102, 45, 49, 54, 108, 101]⟩, .bool true]) := hide rfl
  have KV4 : Hid (knownV 4 = .tuple #[.string ⟨#[117, 116, 102, 45, 49, 54, 98, 101]⟩, .bool true]) := hide rfl
  have P3 := hide (fun (w : World) => fromPairs_any s false w hs)
  have P4 := hide (fun (w : World) => fromPairs_any s true w hs)
  rw [show hiAt false = 1 from rfl] at P3
  rw [show hiAt true = 0 from rfl] at P4
  rcases hk with rfl | rfl | rfl | rfl | rfl
  · go_enter Tryz.func172, Tryz.ntmps172
    go_wp2_with fail
    refine (HK.out _).mono ?_
    rintro e w1 ⟨rfl, hb1⟩
    rw [KV0.out]
    go_wp2_with fail
    refine (valid_any s _ hs).mono ?_
    rintro e w2 ⟨rfl, hb2⟩
    go_wp2_with fail
    go_ret2
    exact ⟨rfl, hb1.trans (hb2.mono hb1.size)⟩
  · go_enter Tryz.func172, Tryz.ntmps172
    go_wp2_with fail
    refine (HK.out _).mono ?_
    rintro e w1 ⟨rfl, hb1⟩
    rw [KV1.out]
    go_wp2_with fail
    refine (valid_any s _ hs).mono ?_
    rintro e w2 ⟨rfl, hb2⟩
    go_wp2_with fail
    go_ret2
    exact ⟨rfl, hb1.trans (hb2.mono hb1.size)⟩
  · go_enter Tryz.func172, Tryz.ntmps172
    go_wp2_with fail
    refine (HK.out _).mono ?_
    rintro e w1 ⟨rfl, hb1⟩
    rw [KV2.out]
    go_wp2_with fail
    refine (fromWindows_any s _ hs (HT.out.below hb1 H0.out)).mono ?_
    rintro e w2 ⟨rfl, hb2⟩
    go_wp2_with fail
    go_ret2
    exact ⟨rfl, hb1.trans (hb2.mono hb1.size)⟩
  · go_enter Tryz.func172, Tryz.ntmps172
    go_wp2_with fail
    refine (HK.out _).mono ?_
    rintro e w1 ⟨rfl, hb1⟩
    rw [KV3.out]
    go_wp2_with fail
    refine (P3.out _).mono ?_
    rintro e w2 ⟨rfl, hb2⟩
    go_wp2_with fail
    go_ret2
    exact ⟨rfl, hb1.trans (hb2.mono hb1.size)⟩
  · go_enter Tryz.func172, Tryz.ntmps172
    go_wp2_with fail
    refine (HK.out _).mono ?_
    rintro e w1 ⟨rfl, hb1⟩
    rw [KV4.out]
    go_wp2_with fail
    refine (P4.out _).mono ?_
    rintro e w2 ⟨rfl, hb2⟩
    go_wp2_with fail
    go_ret2
    exact ⟨rfl, hb1.trans (hb2.mono hb1.size)⟩
end Go.Proofs.YtgokefodmjhhiaaGreatDoor

/- WALK of ent.signOf. No statement is proved here. -/
namespace Go.Proofs.YtgokefodmjhhiaaGreatDoor
open Go.RowKit
set_option linter.unusedVariables false
set_option linter.unusedSimpArgs false
set_option maxRecDepth 100000
/-- the sign of a number -/
def signN (n : Nat) : Int := if n = 0 ∨ 1114111 < n ∨ (55296 ≤ n ∧ n ≤ 57343) then 65533 else if 128 ≤ n ∧ n ≤ 159 then winR (UInt8.ofNat n) else n
theorem win_dec (c : UInt8) : (decL (runeL (winR c))).1 = (winR c).toNat ∧ 0 ≤ winR c := by
  have := u8_all (p := fun c => (decL (runeL (winR c))).1 = (winR c).toNat ∧ 0 ≤ winR c) (by decide +kernel) c
  exact this
theorem dec_win (c : UInt8) : Lib.decodeGo (str (runeL (winR c))) = ((winR c).toNat, (decL (runeL (winR c))).2) := by
  have hl := (runeL_length (winR c)).1
  have hz : (str (runeL (winR c))).size ≠ 0 := by rw [str_size]; omega
  unfold Lib.decodeGo
  rw [if_neg hz, decode_decL _ _ (by omega), List.drop_zero, str_toList]
  exact Prod.ext (win_dec c).1 rfl
theorem signN_window {n : Nat} (h1 : 128 ≤ n) (h2 : n ≤ 159) : signN n = winR (UInt8.ofNat n) := by
  unfold signN; rw [if_neg (by omega), if_pos ⟨h1, h2⟩]
theorem signN_bad {n : Nat} (h : n = 0 ∨ 1114111 < n ∨ (55296 ≤ n ∧ n ≤ 57343)) : signN n = 65533 := by unfold signN; rw [if_pos h]
theorem signN_own {n : Nat} (h : ¬ (n = 0 ∨ 1114111 < n ∨ (55296 ≤ n ∧ n ≤ 57343))) (h' : ¬ (128 ≤ n ∧ n ≤ 159)) : signN n = n := by unfold signN; rw [if_neg h, if_neg h']
theorem tabs_lt {w : World} (h : Lib.Utf8Tabs 4 5 w) : 4 < w.heap.size ∧ 5 < w.heap.size :=
  ⟨World.block_lt_of_cell? _ _ (h.1 0 (by decide)), World.block_lt_of_cell? _ _ (h.2 0 (by decide)).1⟩
theorem tabs_kept {w w' : World} (h : Lib.Utf8Tabs 4 5 w) (hb : Below w.heap.size w w') : Lib.Utf8Tabs 4 5 w' := by
  obtain ⟨l1, l2⟩ := tabs_lt h
  exact ⟨fun c hc => (hb.cell (p := ⟨4, c, none⟩) l1).trans (h.1 c hc), fun i hi => ⟨(hb.cell (p := ⟨5, 2 * i, none⟩) l2).trans (h.2 i hi).1, (hb.cell (p := ⟨5, 2 * i + 1, none⟩) l2).trans (h.2 i hi).2⟩⟩
theorem kind_win : kindL [119, 105, 110, 100, 111, 119, 115, 45, 49, 50, 53, 50] = 2 := by decide +kernel
set_option maxHeartbeats 4000000 in
theorem signOf_any (n : Nat) (w : World) (hn : n < 2147483648) (hT : Tab w) (hU : Lib.Utf8Tabs 4 5 w) :
    Calls Tryz.prog 150 #[.int .i32 n] w fun e w' => e = .returned (.int .i32 (signN n)) ∧ Below w.heap.size w w' := by
  by_cases c0 : n = 0
  · have HR : Hid (signN n = 65533) := hide (signN_bad (.inl c0))
    subst c0
    go_enter Tryz.func150, Tryz.ntmps150
    go_wp2_with fail
    go_ret
    exact ⟨by rw [HR.out]; rfl, Below.refl _ _⟩
  have t0 : ((n : Int) == 0) = false := beq_eq_false_iff_ne.2 (by omega)
  by_cases c1 : 1114111 < n
  · have HR : Hid (signN n = 65533) := hide (signN_bad (.inr (.inl c1)))
    have t1 : decide ((1114111 : Int) < n) = true := decide_eq_true (by omega)
    clear c0
    go_enter Tryz.func150, Tryz.ntmps150
    go_wp2_with fail
    go_ret
    exact ⟨by rw [HR.out]; rfl, Below.refl _ _⟩
  have t1 : decide ((1114111 : Int) < n) = false := decide_eq_false (by omega)
  by_cases c2 : 55296 ≤ n
  · have t2 : decide ((55296 : Int) ≤ n) = true := decide_eq_true (by omega)
    by_cases c3 : n ≤ 57343
    · have HR : Hid (signN n = 65533) := hide (signN_bad (.inr (.inr ⟨c2, c3⟩)))
      have t3 : decide ((n : Int) ≤ 57343) = true := decide_eq_true (by omega)
      clear c0 c1 c2 c3
      go_enter Tryz.func150, Tryz.ntmps150
      go_wp2_with fail
      go_ret
      exact ⟨by rw [HR.out]; rfl, Below.refl _ _⟩
    · have HR : Hid (signN n = n) := hide (signN_own (by omega) (by omega))
      have t3 : decide ((n : Int) ≤ 57343) = false := decide_eq_false (by omega)
      have t4 : decide ((128 : Int) ≤ n) = true := decide_eq_true (by omega)
      have t5 : decide ((n : Int) ≤ 159) = false := decide_eq_false (by omega)
      clear c0 c1 c2 c3
      go_enter Tryz.func150, Tryz.ntmps150
      go_wp2_with fail
      go_ret
      exact ⟨by rw [HR.out]; rfl, Below.refl _ _⟩
  have t2 : decide ((55296 : Int) ≤ n) = false := decide_eq_false (by omega)
  by_cases c4 : 128 ≤ n
  · have t4 : decide ((128 : Int) ≤ n) = true := decide_eq_true (by omega)
    by_cases c5 : n ≤ 159
    · have t5 : decide ((n : Int) ≤ 159) = true := decide_eq_true (by omega)
      obtain ⟨c, hc⟩ : ∃ c, c = UInt8.ofNat n := ⟨_, rfl⟩
      have hcn : c.toNat = n := by rw [hc, UInt8.toNat_ofNat', Nat.mod_eq_of_lt (by omega)]
      have HR : Hid (signN n = winR c) := hide (by rw [hc]; exact signN_window c4 c5)
      have x1 : IntKind.u8.wrap (n : Int) = (n : Int) := IntWalk.u8_in _ (by omega)
      have hbs : strOfNums [(n : Int)] = ⟨#[c]⟩ := by rw [← hcn]; apply ext_list; rw [nums_list]; simp
      have hcv := conv1 w (n : Int)
      rw [hbs] at hcv
      have HD := hide (fun w1 (h1 : Tab w1) => charsDecode_any ⟨#[119, 105, 110, 100, 111, 119, 115, 45, 49, 50, 53, 50]⟩ ⟨#[c]⟩ w1 (by decide) (by show (⟨#[c]⟩ : ByteArray).size ≤ _; rw [show (⟨#[c]⟩ : ByteArray).size = 1 from rfl]; decide) h1)
      have eD : decV (kindL (⟨#[119, 105, 110, 100, 111, 119, 115, 45, 49, 50, 53, 50]⟩ : ByteArray).data.toList) (⟨#[c]⟩ : ByteArray).data.toList = .tuple #[.string (str (runeL (winR c))), .bool true] := by
        rw [show (⟨#[119, 105, 110, 100, 111, 119, 115, 45, 49, 50, 53, 50]⟩ : ByteArray).data.toList = [119, 105, 110, 100, 111, 119, 115, 45, 49, 50, 53, 50] from rfl, kind_win]
        show Value.tuple #[.string (str (winL [c])), .bool true] = _
        rw [winL_cons]
        show Value.tuple #[.string (str (runeL (winR c) ++ [])), .bool true] = _
        rw [List.append_nil]
      rw [eD] at HD
      have HU := hide (fun w1 h1 => Tryz.utf8_DecodeRuneInString (str (runeL (winR c))) w1 h1)
      rw [dec_win] at HU
      have hp : ((winR c).toNat : Int) = winR c := Int.toNat_of_nonneg (win_dec c).2
      rw [show (((winR c).toNat, (decL (runeL (winR c))).2) : Nat × Nat).1 = (winR c).toNat from rfl, hp] at HU
      have KB : Hid (Below w.heap.size w (w.alloc (.cells #[.int .u8 (n : Int)] 5))) := hide ((Below.refl _ _).alloc (Nat.le_refl _) _)
      have HT := hide (hT.below KB.out hT.lt)
      have HTU := hide hU
      obtain ⟨S, hS⟩ : ∃ S, str (runeL (winR c)) = S := ⟨_, rfl⟩
      obtain ⟨R, hR⟩ : ∃ R, winR c = R := ⟨_, rfl⟩
      rw [hS] at HD HU
      rw [hR] at HU HR
      clear c0 c1 c2 c4 c5 hc hcn hbs eD hp hS hR hT hU
      go_enter Tryz.func150, Tryz.ntmps150
      go_wp2_with (first
        | (go_at_call 172; refine (HD.out _ HT.out).mono ?_; rintro e w1 ⟨rfl, hb1⟩; have HB1 := hide (KB.out.trans (hb1.mono KB.out.size)); clear hb1)
        | (go_at_call 173; refine (HU.out _ (tabs_kept HTU.out HB1.out)).mono ?_; rintro e w2 ⟨rfl, hb2⟩; have HB2 := hide (HB1.out.trans (hb2.mono HB1.out.size)); clear hb2))
      go_ret
      exact ⟨by rw [HR.out]; rfl, HB2.out⟩
    · have HR : Hid (signN n = n) := hide (signN_own (by omega) (by omega))
      have t5 : decide ((n : Int) ≤ 159) = false := decide_eq_false (by omega)
      clear c0 c1 c2 c4 c5
      go_enter Tryz.func150, Tryz.ntmps150
      go_wp2_with fail
      go_ret
      exact ⟨by rw [HR.out]; rfl, Below.refl _ _⟩
  · have HR : Hid (signN n = n) := hide (signN_own (by omega) (by omega))
    have t4 : decide ((128 : Int) ≤ n) = false := decide_eq_false (by omega)
    clear c0 c1 c2 c4
    go_enter Tryz.func150, Tryz.ntmps150
    go_wp2_with fail
    go_ret
    exact ⟨by rw [HR.out]; rfl, Below.refl _ _⟩
end Go.Proofs.YtgokefodmjhhiaaGreatDoor

/- WALK of ent.byNumber. No statement is proved here. -/
namespace Go.Proofs.YtgokefodmjhhiaaGreatDoor
open Go.RowKit
set_option linter.unusedVariables false
set_option linter.unusedSimpArgs false
set_option maxRecDepth 100000
/-- the sign of digits -/
def numAt (b most : Nat) (l : List UInt8) : Option Int :=
  match parseU b l with
  | none => none
  | some n => if most < l.length then none else some (signN n)
def entV : Option Int → Value
  | some x => .tuple #[.int .i32 x, .bool true]
  | none => .tuple #[.int .i32 0, .bool false]
theorem parseB_lt {b : Nat} (hb : 0 < b) (l : List UInt8) : ∀ m n, parseB b m l = some n → n + 1 ≤ (m + 1) * b ^ l.length := by
  induction l with
  | nil => intro m n h; injection h with h; subst h; simp
  | cons c r ih =>
    intro m n h
    rw [parseB] at h
    unfold digB at h
    by_cases hd : dgV c < b
    · rw [if_pos hd] at h
      have h1 := ih _ _ h
      have h2 : m * b + dgV c + 1 ≤ (m + 1) * b := by rw [Nat.succ_mul]; omega
      have h3 := Nat.mul_le_mul_right (b ^ r.length) h2
      rw [List.length_cons, Nat.pow_succ, Nat.mul_comm (b ^ r.length) b, ← Nat.mul_assoc]
      exact Nat.le_trans h1 h3
    · rw [if_neg hd] at h; cases h
theorem parse_lt {b : Nat} {l : List UInt8} (hb : 0 < b) : ∀ n, parseU b l = some n → n < b ^ l.length := by
  intro n h
  unfold parseU at h
  split at h
  · cases h
  · have := parseB_lt hb l 0 n h
    rw [Nat.zero_add, Nat.one_mul] at this
    exact this
theorem pref_size {D : ByteArray} {c : UInt8} (h : Lib.hasPrefix D.data.toList [c] = true) : 1 ≤ D.size := by
  rw [← toList_length]
  cases hl : D.data.toList with
  | nil => rw [hl] at h; cases h
  | cons a r => exact Nat.succ_pos _

set_option maxHeartbeats 4000000 in
theorem byNumber_x (D : ByteArray) (ev : Value) (w : World) (hs : D.size ≤ 8) (p1 : Lib.hasPrefix D.data.toList [120] = true) (hT : Tab w) (hU : Lib.Utf8Tabs 4 5 w)
    (hv : w.cell? ⟨1, 0, none⟩ = some ev) (hev : ev = .nilIface ∨ ∃ te pe, ev = .iface te pe) :
    Calls Tryz.prog 131 #[.string D] w fun e w' => e = .returned (entV (numAt 16 6 (D.extract 1 D.size).data.toList)) ∧ Below w.heap.size w w' := by
  have z1 : 1 ≤ D.size := pref_size p1
  have k1 : (1 : Int) ≤ D.size := by omega
  have P1 : Hid (Lib.hasPrefix D.data.toList [120] = true) := hide p1
  have HT := hide hT
  have HTU := hide hU
  have HC := hide (fun w1 (hb : Below w.heap.size w w1) => parse16_any (D.extract 1 D.size) ev w1 (Nat.le_trans (by rw [ByteArray.size_extract]; omega) hs) ((hb.cell (p := ⟨1, 0, none⟩) (World.block_lt_of_cell? _ _ hv)).trans hv) hev)
  have tok1 : True := trivial
  have tok2 : True := trivial
  have hrl : (D.extract 1 D.size).size = (D.size - 1) := (by rw [ByteArray.size_extract]; omega)
  have HB0 := hide (parse_lt (b := 16) (l := (D.extract 1 D.size).data.toList) (by decide))
  cases hu : parseU 16 (D.extract 1 D.size).data.toList with
  | none =>
    have HU := hide hu
    have HR : Hid (numAt 16 6 (D.extract 1 D.size).data.toList = none) := hide (by unfold numAt; rw [hu])
    clear hu hT hU hv hev p1
    go_enter Tryz.func131, Tryz.ntmps131
    go_wp2_with (first
      | (go_at_call 127; have _t := tok1; refine (Tryz.strings_HasPrefix D ⟨#[120]⟩ _).mono ?_; rintro e w1 ⟨rfl, hw1⟩; obtain rfl := hw1.symm; rw [show (⟨#[120]⟩ : ByteArray).data.toList = [120] from rfl, P1.out]; clear tok1)
      | (go_at_call 149; refine (HC.out _ (Below.refl _ _)).mono ?_; rintro e w1 ⟨he, hb1⟩; rw [HU.out] at he; obtain ⟨N, rfl⟩ := he; have HB1 := hide hb1; clear hb1)
      | (go_at_call 150; refine (signOf_any _ _ HN31.out (HT.out.below HB1.out HT.out.lt) (tabs_kept HTU.out HB1.out)).mono ?_; rintro e w2 ⟨rfl, hb2⟩; have HB2 := hide (HB1.out.trans (hb2.mono HB1.out.size)); clear hb2))
    go_ret2
    exact ⟨by rw [HR.out]; rfl, HB1.out⟩
  | some n =>
    have HU := hide hu
    have hlt := HB0.out n hu
    rw [toList_length, hrl] at hlt
    by_cases hm : 6 < (D.size - 1)
    · have HR : Hid (numAt 16 6 (D.extract 1 D.size).data.toList = none) := hide (by unfold numAt; rw [hu]; simp only []; rw [toList_length, hrl, if_pos hm])
      have t1 : decide ((6 : Int) < ((D.extract 1 D.size).size : Int)) = true := decide_eq_true (by rw [hrl]; omega)
      have t2 : decide (6 < (D.extract 1 D.size).size) = true := decide_eq_true (by rw [hrl]; exact hm)
      have t3 : decide ((6 : Int) < (((D.size - 1) : Nat) : Int)) = true := decide_eq_true (by omega)
      have t4 : decide (6 < (D.size - 1)) = true := decide_eq_true hm
      clear hu hT hU hv hev p1 hlt hm hrl
      go_enter Tryz.func131, Tryz.ntmps131
      go_wp2_with (first
      | (go_at_call 127; have _t := tok1; refine (Tryz.strings_HasPrefix D ⟨#[120]⟩ _).mono ?_; rintro e w1 ⟨rfl, hw1⟩; obtain rfl := hw1.symm; rw [show (⟨#[120]⟩ : ByteArray).data.toList = [120] from rfl, P1.out]; clear tok1)
      | (go_at_call 149; refine (HC.out _ (Below.refl _ _)).mono ?_; rintro e w1 ⟨he, hb1⟩; rw [HU.out] at he; obtain rfl := he; have HB1 := hide hb1; clear hb1)
      | (go_at_call 150; refine (signOf_any _ _ HN31.out (HT.out.below HB1.out HT.out.lt) (tabs_kept HTU.out HB1.out)).mono ?_; rintro e w2 ⟨rfl, hb2⟩; have HB2 := hide (HB1.out.trans (hb2.mono HB1.out.size)); clear hb2))
      go_ret2
      exact ⟨by rw [HR.out]; rfl, HB1.out⟩
    · have HR : Hid (numAt 16 6 (D.extract 1 D.size).data.toList = some (signN n)) := hide (by unfold numAt; rw [hu]; simp only []; rw [toList_length, hrl, if_neg hm])
      have t1 : decide ((6 : Int) < ((D.extract 1 D.size).size : Int)) = false := decide_eq_false (by rw [hrl]; omega)
      have t2 : decide (6 < (D.extract 1 D.size).size) = false := decide_eq_false (by rw [hrl]; exact hm)
      have t3 : decide ((6 : Int) < (((D.size - 1) : Nat) : Int)) = false := decide_eq_false (by omega)
      have t4 : decide (6 < (D.size - 1)) = false := decide_eq_false hm
      have hn31 : n < 2147483648 := Nat.lt_of_lt_of_le hlt (Nat.le_trans (Nat.pow_le_pow_right (by decide) (by omega : (D.size - 1) ≤ 6)) (by decide))
      have HN31 := hide hn31
      have x1 : IntKind.i32.wrap (n : Int) = (n : Int) := IntWalk.i32_in _ (by omega)
      clear hu hT hU hv hev p1 hlt hm hrl hn31
      go_enter Tryz.func131, Tryz.ntmps131
      go_wp2_with (first
      | (go_at_call 127; have _t := tok1; refine (Tryz.strings_HasPrefix D ⟨#[120]⟩ _).mono ?_; rintro e w1 ⟨rfl, hw1⟩; obtain rfl := hw1.symm; rw [show (⟨#[120]⟩ : ByteArray).data.toList = [120] from rfl, P1.out]; clear tok1)
      | (go_at_call 149; refine (HC.out _ (Below.refl _ _)).mono ?_; rintro e w1 ⟨he, hb1⟩; rw [HU.out] at he; obtain rfl := he; have HB1 := hide hb1; clear hb1)
      | (go_at_call 150; refine (signOf_any _ _ HN31.out (HT.out.below HB1.out HT.out.lt) (tabs_kept HTU.out HB1.out)).mono ?_; rintro e w2 ⟨rfl, hb2⟩; have HB2 := hide (HB1.out.trans (hb2.mono HB1.out.size)); clear hb2))
      go_ret2
      exact ⟨by rw [HR.out]; rfl, HB2.out⟩

set_option maxHeartbeats 4000000 in
theorem byNumber_X (D : ByteArray) (ev : Value) (w : World) (hs : D.size ≤ 8) (p1 : Lib.hasPrefix D.data.toList [120] = false) (p2 : Lib.hasPrefix D.data.toList [88] = true) (hT : Tab w) (hU : Lib.Utf8Tabs 4 5 w)
    (hv : w.cell? ⟨1, 0, none⟩ = some ev) (hev : ev = .nilIface ∨ ∃ te pe, ev = .iface te pe) :
    Calls Tryz.prog 131 #[.string D] w fun e w' => e = .returned (entV (numAt 16 6 (D.extract 1 D.size).data.toList)) ∧ Below w.heap.size w w' := by
  have z1 : 1 ≤ D.size := pref_size p2
  have k1 : (1 : Int) ≤ D.size := by omega
  have P1 : Hid (Lib.hasPrefix D.data.toList [120] = false) := hide p1
  have P2 : Hid (Lib.hasPrefix D.data.toList [88] = true) := hide p2
  have HT := hide hT
  have HTU := hide hU
  have HC := hide (fun w1 (hb : Below w.heap.size w w1) => parse16_any (D.extract 1 D.size) ev w1 (Nat.le_trans (by rw [ByteArray.size_extract]; omega) hs) ((hb.cell (p := ⟨1, 0, none⟩) (World.block_lt_of_cell? _ _ hv)).trans hv) hev)
  have tok1 : True := trivial
  have tok2 : True := trivial
  have hrl : (D.extract 1 D.size).size = (D.size - 1) := (by rw [ByteArray.size_extract]; omega)
  have HB0 := hide (parse_lt (b := 16) (l := (D.extract 1 D.size).data.toList) (by decide))
  cases hu : parseU 16 (D.extract 1 D.size).data.toList with
  | none =>
    have HU := hide hu
    have HR : Hid (numAt 16 6 (D.extract 1 D.size).data.toList = none) := hide (by unfold numAt; rw [hu])
    clear hu hT hU hv hev p1 p2
    go_enter Tryz.func131, Tryz.ntmps131
    go_wp2_with (first
      | (go_at_call 127; have _t := tok1; refine (Tryz.strings_HasPrefix D ⟨#[120]⟩ _).mono ?_; rintro e w1 ⟨rfl, hw1⟩; obtain rfl := hw1.symm; rw [show (⟨#[120]⟩ : ByteArray).data.toList = [120] from rfl, P1.out]; clear tok1)
      | (go_at_call 127; have _t := tok2; refine (Tryz.strings_HasPrefix D ⟨#[88]⟩ _).mono ?_; rintro e w1 ⟨rfl, hw1⟩; obtain rfl := hw1.symm; rw [show (⟨#[88]⟩ : ByteArray).data.toList = [88] from rfl, P2.out]; clear tok2)
      | (go_at_call 149; refine (HC.out _ (Below.refl _ _)).mono ?_; rintro e w1 ⟨he, hb1⟩; rw [HU.out] at he; obtain ⟨N, rfl⟩ := he; have HB1 := hide hb1; clear hb1)
      | (go_at_call 150; refine (signOf_any _ _ HN31.out (HT.out.below HB1.out HT.out.lt) (tabs_kept HTU.out HB1.out)).mono ?_; rintro e w2 ⟨rfl, hb2⟩; have HB2 := hide (HB1.out.trans (hb2.mono HB1.out.size)); clear hb2))
    go_ret2
    exact ⟨by rw [HR.out]; rfl, HB1.out⟩
  | some n =>
    have HU := hide hu
    have hlt := HB0.out n hu
    rw [toList_length, hrl] at hlt
    by_cases hm : 6 < (D.size - 1)
    · have HR : Hid (numAt 16 6 (D.extract 1 D.size).data.toList = none) := hide (by unfold numAt; rw [hu]; simp only []; rw [toList_length, hrl, if_pos hm])
      have t1 : decide ((6 : Int) < ((D.extract 1 D.size).size : Int)) = true := decide_eq_true (by rw [hrl]; omega)
      have t2 : decide (6 < (D.extract 1 D.size).size) = true := decide_eq_true (by rw [hrl]; exact hm)
      have t3 : decide ((6 : Int) < (((D.size - 1) : Nat) : Int)) = true := decide_eq_true (by omega)
      have t4 : decide (6 < (D.size - 1)) = true := decide_eq_true hm
      clear hu hT hU hv hev p1 p2 hlt hm hrl
      go_enter Tryz.func131, Tryz.ntmps131
      go_wp2_with (first
      | (go_at_call 127; have _t := tok1; refine (Tryz.strings_HasPrefix D ⟨#[120]⟩ _).mono ?_; rintro e w1 ⟨rfl, hw1⟩; obtain rfl := hw1.symm; rw [show (⟨#[120]⟩ : ByteArray).data.toList = [120] from rfl, P1.out]; clear tok1)
      | (go_at_call 127; have _t := tok2; refine (Tryz.strings_HasPrefix D ⟨#[88]⟩ _).mono ?_; rintro e w1 ⟨rfl, hw1⟩; obtain rfl := hw1.symm; rw [show (⟨#[88]⟩ : ByteArray).data.toList = [88] from rfl, P2.out]; clear tok2)
      | (go_at_call 149; refine (HC.out _ (Below.refl _ _)).mono ?_; rintro e w1 ⟨he, hb1⟩; rw [HU.out] at he; obtain rfl := he; have HB1 := hide hb1; clear hb1)
      | (go_at_call 150; refine (signOf_any _ _ HN31.out (HT.out.below HB1.out HT.out.lt) (tabs_kept HTU.out HB1.out)).mono ?_; rintro e w2 ⟨rfl, hb2⟩; have HB2 := hide (HB1.out.trans (hb2.mono HB1.out.size)); clear hb2))
      go_ret2
      exact ⟨by rw [HR.out]; rfl, HB1.out⟩
    · have HR : Hid (numAt 16 6 (D.extract 1 D.size).data.toList = some (signN n)) := hide (by unfold numAt; rw [hu]; simp only []; rw [toList_length, hrl, if_neg hm])
      have t1 : decide ((6 : Int) < ((D.extract 1 D.size).size : Int)) = false := decide_eq_false (by rw [hrl]; omega)
      have t2 : decide (6 < (D.extract 1 D.size).size) = false := decide_eq_false (by rw [hrl]; exact hm)
      have t3 : decide ((6 : Int) < (((D.size - 1) : Nat) : Int)) = false := decide_eq_false (by omega)
      have t4 : decide (6 < (D.size - 1)) = false := decide_eq_false hm
      have hn31 : n < 2147483648 := Nat.lt_of_lt_of_le hlt (Nat.le_trans (Nat.pow_le_pow_right (by decide) (by omega : (D.size - 1) ≤ 6)) (by decide))
      have HN31 := hide hn31
      have x1 : IntKind.i32.wrap (n : Int) = (n : Int) := IntWalk.i32_in _ (by omega)
      clear hu hT hU hv hev p1 p2 hlt hm hrl hn31
      go_enter Tryz.func131, Tryz.ntmps131
      go_wp2_with (first
      | (go_at_call 127; have _t := tok1; refine (Tryz.strings_HasPrefix D ⟨#[120]⟩ _).mono ?_; rintro e w1 ⟨rfl, hw1⟩; obtain rfl := hw1.symm; rw [show (⟨#[120]⟩ : ByteArray).data.toList = [120] from rfl, P1.out]; clear tok1)
      | (go_at_call 127; have _t := tok2; refine (Tryz.strings_HasPrefix D ⟨#[88]⟩ _).mono ?_; rintro e w1 ⟨rfl, hw1⟩; obtain rfl := hw1.symm; rw [show (⟨#[88]⟩ : ByteArray).data.toList = [88] from rfl, P2.out]; clear tok2)
      | (go_at_call 149; refine (HC.out _ (Below.refl _ _)).mono ?_; rintro e w1 ⟨he, hb1⟩; rw [HU.out] at he; obtain rfl := he; have HB1 := hide hb1; clear hb1)
      | (go_at_call 150; refine (signOf_any _ _ HN31.out (HT.out.below HB1.out HT.out.lt) (tabs_kept HTU.out HB1.out)).mono ?_; rintro e w2 ⟨rfl, hb2⟩; have HB2 := hide (HB1.out.trans (hb2.mono HB1.out.size)); clear hb2))
      go_ret2
      exact ⟨by rw [HR.out]; rfl, HB2.out⟩

set_option maxHeartbeats 4000000 in
theorem byNumber_d (D : ByteArray) (ev : Value) (w : World) (hs : D.size ≤ 8) (p1 : Lib.hasPrefix D.data.toList [120] = false) (p2 : Lib.hasPrefix D.data.toList [88] = false) (hT : Tab w) (hU : Lib.Utf8Tabs 4 5 w)
    (hv : w.cell? ⟨1, 0, none⟩ = some ev) (hev : ev = .nilIface ∨ ∃ te pe, ev = .iface te pe) :
    Calls Tryz.prog 131 #[.string D] w fun e w' => e = .returned (entV (numAt 10 7 D.data.toList)) ∧ Below w.heap.size w w' := by
  have P1 : Hid (Lib.hasPrefix D.data.toList [120] = false) := hide p1
  have P2 : Hid (Lib.hasPrefix D.data.toList [88] = false) := hide p2
  have HT := hide hT
  have HTU := hide hU
  have HC := hide (fun w1 (hb : Below w.heap.size w w1) => parse10_any D ev w1 hs ((hb.cell (p := ⟨1, 0, none⟩) (World.block_lt_of_cell? _ _ hv)).trans hv) hev)
  have tok1 : True := trivial
  have tok2 : True := trivial
  have hrl : D.size = D.size := rfl
  have HB0 := hide (parse_lt (b := 10) (l := D.data.toList) (by decide))
  cases hu : parseU 10 D.data.toList with
  | none =>
    have HU := hide hu
    have HR : Hid (numAt 10 7 D.data.toList = none) := hide (by unfold numAt; rw [hu])
    clear hu hT hU hv hev p1 p2
    go_enter Tryz.func131, Tryz.ntmps131
    go_wp2_with (first
      | (go_at_call 127; have _t := tok1; refine (Tryz.strings_HasPrefix D ⟨#[120]⟩ _).mono ?_; rintro e w1 ⟨rfl, hw1⟩; obtain rfl := hw1.symm; rw [show (⟨#[120]⟩ : ByteArray).data.toList = [120] from rfl, P1.out]; clear tok1)
      | (go_at_call 127; have _t := tok2; refine (Tryz.strings_HasPrefix D ⟨#[88]⟩ _).mono ?_; rintro e w1 ⟨rfl, hw1⟩; obtain rfl := hw1.symm; rw [show (⟨#[88]⟩ : ByteArray).data.toList = [88] from rfl, P2.out]; clear tok2)
      | (go_at_call 149; refine (HC.out _ (Below.refl _ _)).mono ?_; rintro e w1 ⟨he, hb1⟩; rw [HU.out] at he; obtain ⟨N, rfl⟩ := he; have HB1 := hide hb1; clear hb1)
      | (go_at_call 150; refine (signOf_any _ _ HN31.out (HT.out.below HB1.out HT.out.lt) (tabs_kept HTU.out HB1.out)).mono ?_; rintro e w2 ⟨rfl, hb2⟩; have HB2 := hide (HB1.out.trans (hb2.mono HB1.out.size)); clear hb2))
    go_ret2
    exact ⟨by rw [HR.out]; rfl, HB1.out⟩
  | some n =>
    have HU := hide hu
    have hlt := HB0.out n hu
    rw [toList_length, hrl] at hlt
    by_cases hm : 7 < D.size
    · have HR : Hid (numAt 10 7 D.data.toList = none) := hide (by unfold numAt; rw [hu]; simp only []; rw [toList_length, hrl, if_pos hm])
      have t1 : decide ((7 : Int) < (D.size : Int)) = true := decide_eq_true (by rw [hrl]; omega)
      have t2 : decide (7 < D.size) = true := decide_eq_true (by rw [hrl]; exact hm)
      have t3 : decide ((7 : Int) < ((D.size : Nat) : Int)) = true := decide_eq_true (by omega)
      have t4 : decide (7 < D.size) = true := decide_eq_true hm
      clear hu hT hU hv hev p1 p2 hlt hm hrl
      go_enter Tryz.func131, Tryz.ntmps131
      go_wp2_with (first
      | (go_at_call 127; have _t := tok1; refine (Tryz.strings_HasPrefix D ⟨#[120]⟩ _).mono ?_; rintro e w1 ⟨rfl, hw1⟩; obtain rfl := hw1.symm; rw [show (⟨#[120]⟩ : ByteArray).data.toList = [120] from rfl, P1.out]; clear tok1)
      | (go_at_call 127; have _t := tok2; refine (Tryz.strings_HasPrefix D ⟨#[88]⟩ _).mono ?_; rintro e w1 ⟨rfl, hw1⟩; obtain rfl := hw1.symm; rw [show (⟨#[88]⟩ : ByteArray).data.toList = [88] from rfl, P2.out]; clear tok2)
      | (go_at_call 149; refine (HC.out _ (Below.refl _ _)).mono ?_; rintro e w1 ⟨he, hb1⟩; rw [HU.out] at he; obtain rfl := he; have HB1 := hide hb1; clear hb1)
      | (go_at_call 150; refine (signOf_any _ _ HN31.out (HT.out.below HB1.out HT.out.lt) (tabs_kept HTU.out HB1.out)).mono ?_; rintro e w2 ⟨rfl, hb2⟩; have HB2 := hide (HB1.out.trans (hb2.mono HB1.out.size)); clear hb2))
      go_ret2
      exact ⟨by rw [HR.out]; rfl, HB1.out⟩
    · have HR : Hid (numAt 10 7 D.data.toList = some (signN n)) := hide (by unfold numAt; rw [hu]; simp only []; rw [toList_length, hrl, if_neg hm])
      have t1 : decide ((7 : Int) < (D.size : Int)) = false := decide_eq_false (by rw [hrl]; omega)
      have t2 : decide (7 < D.size) = false := decide_eq_false (by rw [hrl]; exact hm)
      have t3 : decide ((7 : Int) < ((D.size : Nat) : Int)) = false := decide_eq_false (by omega)
      have t4 : decide (7 < D.size) = false := decide_eq_false hm
      have hn31 : n < 2147483648 := Nat.lt_of_lt_of_le hlt (Nat.le_trans (Nat.pow_le_pow_right (by decide) (by omega : D.size ≤ 7)) (by decide))
      have HN31 := hide hn31
      have x1 : IntKind.i32.wrap (n : Int) = (n : Int) := IntWalk.i32_in _ (by omega)
      clear hu hT hU hv hev p1 p2 hlt hm hrl hn31
      go_enter Tryz.func131, Tryz.ntmps131
      go_wp2_with (first
      | (go_at_call 127; have _t := tok1; refine (Tryz.strings_HasPrefix D ⟨#[120]⟩ _).mono ?_; rintro e w1 ⟨rfl, hw1⟩; obtain rfl := hw1.symm; rw [show (⟨#[120]⟩ : ByteArray).data.toList = [120] from rfl, P1.out]; clear tok1)
      | (go_at_call 127; have _t := tok2; refine (Tryz.strings_HasPrefix D ⟨#[88]⟩ _).mono ?_; rintro e w1 ⟨rfl, hw1⟩; obtain rfl := hw1.symm; rw [show (⟨#[88]⟩ : ByteArray).data.toList = [88] from rfl, P2.out]; clear tok2)
      | (go_at_call 149; refine (HC.out _ (Below.refl _ _)).mono ?_; rintro e w1 ⟨he, hb1⟩; rw [HU.out] at he; obtain rfl := he; have HB1 := hide hb1; clear hb1)
      | (go_at_call 150; refine (signOf_any _ _ HN31.out (HT.out.below HB1.out HT.out.lt) (tabs_kept HTU.out HB1.out)).mono ?_; rintro e w2 ⟨rfl, hb2⟩; have HB2 := hide (HB1.out.trans (hb2.mono HB1.out.size)); clear hb2))
      go_ret2
      exact ⟨by rw [HR.out]; rfl, HB2.out⟩

end Go.Proofs.YtgokefodmjhhiaaGreatDoor

/- WALK of ent.reference. No statement is proved here. -/
namespace Go.Proofs.YtgokefodmjhhiaaGreatDoor
open Go.RowKit
set_option linter.unusedVariables false
set_option linter.unusedSimpArgs false
set_option maxRecDepth 100000
/-- the sign of what stands behind a reference's `#` -/
def byN (l : List UInt8) : Option Int := if Lib.hasPrefix l [120] || Lib.hasPrefix l [88] then numAt 16 6 (l.drop 1) else numAt 10 7 l
/-- the sign of what stands between a reference's signs -/
def sgn (l : List UInt8) : Option Int := if Lib.hasPrefix l [35] = true then byN (Lib.trimPrefix l [35]) else nameN l
/-- the sign of the reference whose begin stands just ahead, and how many bytes belong to it -/
def refN (l : List UInt8) : Int × Nat :=
  match sgn (beforeC 59 (l.take 9)), hasC 59 (l.take 9) with
  | some x, true => (x, (beforeC 59 (l.take 9)).length + 1)
  | _, _ => (0, 0)
theorem byNumber_any (D : ByteArray) (ev : Value) (w : World) (hs : D.size ≤ 8) (hT : Tab w) (hU : Lib.Utf8Tabs 4 5 w)
    (hv : w.cell? ⟨1, 0, none⟩ = some ev) (hev : ev = .nilIface ∨ ∃ te pe, ev = .iface te pe) :
    Calls Tryz.prog 131 #[.string D] w fun e w' => e = .returned (entV (byN D.data.toList)) ∧ Below w.heap.size w w' := by
  cases p1 : Lib.hasPrefix D.data.toList [120] with
  | true =>
    have e : byN D.data.toList = numAt 16 6 (D.extract 1 D.size).data.toList := by unfold byN; rw [p1, extract_end]; rfl
    rw [e]; exact byNumber_x D ev w hs p1 hT hU hv hev
  | false =>
    cases p2 : Lib.hasPrefix D.data.toList [88] with
    | true =>
      have e : byN D.data.toList = numAt 16 6 (D.extract 1 D.size).data.toList := by unfold byN; rw [p1, p2, extract_end]; rfl
      rw [e]; exact byNumber_X D ev w hs p1 p2 hT hU hv hev
    | false =>
      have e : byN D.data.toList = numAt 10 7 D.data.toList := by unfold byN; rw [p1, p2]; rfl
      rw [e]; exact byNumber_d D ev w hs p1 p2 hT hU hv hev
theorem dig_size {C D : ByteArray} (hp : Lib.hasPrefix C.data.toList [35] = true) (hD : D.data.toList = Lib.trimPrefix C.data.toList [35]) (h : C.size ≤ 9) : D.size ≤ 8 := by
  have := congrArg List.length hD
  rw [toList_length] at this
  rw [this]
  unfold Lib.trimPrefix
  rw [hp]
  have := pref_size hp
  simp only [if_true, List.length_drop, toList_length]
  have e1 : ([35] : List UInt8).length = 1 := rfl
  omega
def refV (o : Int × Nat) : Value := .tuple #[.int .i32 o.1, .int .i64 o.2]
set_option maxHeartbeats 4000000 in
theorem reference_any (R : ByteArray) (b : Nat) (ev : Value) (w : World) (hs : R.size ≤ 16777216) (hM : SMapN w b 16 nameN) (hT : Tab w) (hU : Lib.Utf8Tabs 4 5 w)
    (hv : w.cell? ⟨1, 0, none⟩ = some ev) (hev : ev = .nilIface ∨ ∃ te pe, ev = .iface te pe) :
    Calls Tryz.prog 91 #[.string R, .map (some b)] w fun e w' => e = .returned (refV (refN R.data.toList)) ∧ Below w.heap.size w w' := by
  have zC : (beforeC 59 (R.data.toList.take 9)).length ≤ 9 := Nat.le_trans ((List.takeWhile_sublist _).length_le) (List.length_take_le _ _)
  obtain ⟨C, hC⟩ : ∃ C, C = str (beforeC 59 (R.data.toList.take 9)) := ⟨_, rfl⟩
  have hCt : C.data.toList = beforeC 59 (R.data.toList.take 9) := by rw [hC, str_toList]
  have HCS : Hid (C.size ≤ maxLen) := hide (by rw [hC, str_size]; exact Nat.le_trans zC (by decide))
  have hCs : C.size ≤ 9 := by rw [hC, str_size]; exact zC
  have HM := hide hM
  obtain ⟨D, hD⟩ : ∃ D, D = (⟨(Lib.trimPrefix C.data.toList [35]).toArray⟩ : ByteArray) := ⟨_, rfl⟩
  have hDt : D.data.toList = Lib.trimPrefix C.data.toList [35] := by rw [hD]
  have hpre := fun w1 => Tryz.strings_CutPrefix C ⟨#[35]⟩ w1
  rw [show (⟨#[35]⟩ : ByteArray).data.toList = [35] from rfl, ← hD] at hpre
  by_cases hz : R.size < 9
  · have m1 : decide ((R.size : Int) < 9) = true := decide_eq_true (by omega)
    have mn : min (R.size : Int) 9 = R.size := by omega
    obtain ⟨N, hN⟩ : ∃ N, N = R := ⟨_, rfl⟩
    have hNt : N.data.toList = R.data.toList.take 9 := by rw [hN, List.take_of_length_le (by rw [toList_length]; omega)]
    have hcut := fun w1 => strCut_any N 59 w1 (by rw [← toList_length, hNt]; exact Nat.le_trans (List.length_take_le _ _) (by decide))
    simp only [cutV] at hcut
    rw [hNt, ← hC, hN] at hcut
    cases hp : Lib.hasPrefix C.data.toList [35]
    · have HP : Hid (Lib.hasPrefix C.data.toList [35] = false) := hide hp
      rw [hp] at hpre
      have HPRE := hide hpre
      have hsg : sgn C.data.toList = nameN C.data.toList := by unfold sgn; rw [hp, if_neg (by decide)]
      cases hsn : nameN C.data.toList with
      | none =>
        rw [hsn] at hsg
        have HNM := hide hsn
        cases hend : hasC 59 (R.data.toList.take 9) with
        | false =>
          have HR : Hid (refN R.data.toList = (0, 0)) := hide (by unfold refN; rw [← hCt, hsg, hend])
          rw [hend] at hcut
          have HCUT := hide hcut
          clear hcut hsg hsn hend hp hpre hT hU hv hev hM hC hCt hDt hD hN hNt zC
          go_enter Tryz.func91, Tryz.ntmps91
          go_wp2_with (first | (go_at_call 90; with_reducible refine (HCUT.out _).mono ?_; rintro e w1 ⟨rfl, hb1⟩; have HB1 := hide hb1; clear hb1) | (go_at_call 95; with_reducible refine (HPRE.out _).mono ?_; rintro e wp ⟨rfl, hwp⟩; obtain rfl := hwp) | (at_lookup; refine wpList_sm_look rfl _ _ rfl b 16 nameN rfl (HM.out.kept HB1.out) C HCS.out rfl ?_; rw [HNM.out]))
          go_ret2
          exact ⟨by rw [HR.out]; rfl, HB1.out⟩
        | true =>
          have HR : Hid (refN R.data.toList = (0, 0)) := hide (by unfold refN; rw [← hCt, hsg, hend])
          rw [hend] at hcut
          have HCUT := hide hcut
          clear hcut hsg hsn hend hp hpre hT hU hv hev hM hC hCt hDt hD hN hNt zC
          go_enter Tryz.func91, Tryz.ntmps91
          go_wp2_with (first | (go_at_call 90; with_reducible refine (HCUT.out _).mono ?_; rintro e w1 ⟨rfl, hb1⟩; have HB1 := hide hb1; clear hb1) | (go_at_call 95; with_reducible refine (HPRE.out _).mono ?_; rintro e wp ⟨rfl, hwp⟩; obtain rfl := hwp) | (at_lookup; refine wpList_sm_look rfl _ _ rfl b 16 nameN rfl (HM.out.kept HB1.out) C HCS.out rfl ?_; rw [HNM.out]))
          go_ret2
          exact ⟨by rw [HR.out]; rfl, HB1.out⟩
      | some x =>
        rw [hsn] at hsg
        have HNM := hide hsn
        cases hend : hasC 59 (R.data.toList.take 9) with
        | false =>
          have HR : Hid (refN R.data.toList = (0, 0)) := hide (by unfold refN; rw [← hCt, hsg, hend])
          rw [hend] at hcut
          have HCUT := hide hcut
          clear hcut hsg hsn hend hp hpre hT hU hv hev hM hC hCt hDt hD hN hNt zC
          go_enter Tryz.func91, Tryz.ntmps91
          go_wp2_with (first | (go_at_call 90; with_reducible refine (HCUT.out _).mono ?_; rintro e w1 ⟨rfl, hb1⟩; have HB1 := hide hb1; clear hb1) | (go_at_call 95; with_reducible refine (HPRE.out _).mono ?_; rintro e wp ⟨rfl, hwp⟩; obtain rfl := hwp) | (at_lookup; refine wpList_sm_look rfl _ _ rfl b 16 nameN rfl (HM.out.kept HB1.out) C HCS.out rfl ?_; rw [HNM.out]))
          go_ret2
          exact ⟨by rw [HR.out]; rfl, HB1.out⟩
        | true =>
          have HR : Hid (refN R.data.toList = (x, C.size + 1)) := hide (by unfold refN; rw [← hCt, hsg, hend]; simp only [toList_length])
          rw [hend] at hcut
          have HCUT := hide hcut
          clear hcut hsg hsn hend hp hpre hT hU hv hev hM hC hCt hDt hD hN hNt zC
          go_enter Tryz.func91, Tryz.ntmps91
          go_wp2_with (first | (go_at_call 90; with_reducible refine (HCUT.out _).mono ?_; rintro e w1 ⟨rfl, hb1⟩; have HB1 := hide hb1; clear hb1) | (go_at_call 95; with_reducible refine (HPRE.out _).mono ?_; rintro e wp ⟨rfl, hwp⟩; obtain rfl := hwp) | (at_lookup; refine wpList_sm_look rfl _ _ rfl b 16 nameN rfl (HM.out.kept HB1.out) C HCS.out rfl ?_; rw [HNM.out]))
          go_ret2
          exact ⟨by rw [HR.out]; rfl, HB1.out⟩
    · have HP : Hid (Lib.hasPrefix C.data.toList [35] = true) := hide hp
      rw [hp] at hpre
      have HPRE := hide hpre
      obtain ⟨nm, hnm⟩ : ∃ nm, nameN C.data.toList = nm := ⟨_, rfl⟩
      have HNM := hide hnm
      have hsg : sgn C.data.toList = byN D.data.toList := by unfold sgn; rw [hp, if_pos rfl, hDt]
      have hds : D.size ≤ 8 := dig_size hp hDt (by rw [← hCt] at zC; rw [toList_length] at zC; exact zC)
      have hnum := fun w1 (hb : Below w.heap.size w w1) => byNumber_any D ev w1 hds (hT.below hb hT.lt) (tabs_kept hU hb) ((hb.cell (p := ⟨1, 0, none⟩) (World.block_lt_of_cell? _ _ hv)).trans hv) hev
      cases hsn : byN D.data.toList with
      | none =>
        rw [hsn] at hsg
        rw [hsn] at hnum
        simp only [entV] at hnum
        have HNUM := hide hnum
        cases hend : hasC 59 (R.data.toList.take 9) with
        | false =>
          have HR : Hid (refN R.data.toList = (0, 0)) := hide (by unfold refN; rw [← hCt, hsg, hend])
          rw [hend] at hcut
          have HCUT := hide hcut
          clear hcut hsg hsn hend hp hpre hT hU hv hev hM hC hCt hDt hD hN hNt zC hnm hnum hds
          go_enter Tryz.func91, Tryz.ntmps91
          go_wp2_with (first | (go_at_call 90; with_reducible refine (HCUT.out _).mono ?_; rintro e w1 ⟨rfl, hb1⟩; have HB1 := hide hb1; clear hb1) | (go_at_call 95; with_reducible refine (HPRE.out _).mono ?_; rintro e wp ⟨rfl, hwp⟩; obtain rfl := hwp) | (at_lookup; refine wpList_sm_look rfl _ _ rfl b 16 nameN rfl (HM.out.kept HB1.out) C HCS.out rfl ?_; rw [HNM.out]) | (go_at_call 131; with_reducible refine (HNUM.out _ HB1.out).mono ?_; rintro e w2 ⟨rfl, hb2⟩; have HB2 := hide (HB1.out.trans (hb2.mono HB1.out.size)); clear hb2))
          go_ret2
          exact ⟨by rw [HR.out]; rfl, HB2.out⟩
        | true =>
          have HR : Hid (refN R.data.toList = (0, 0)) := hide (by unfold refN; rw [← hCt, hsg, hend])
          rw [hend] at hcut
          have HCUT := hide hcut
          clear hcut hsg hsn hend hp hpre hT hU hv hev hM hC hCt hDt hD hN hNt zC hnm hnum hds
          go_enter Tryz.func91, Tryz.ntmps91
          go_wp2_with (first | (go_at_call 90; with_reducible refine (HCUT.out _).mono ?_; rintro e w1 ⟨rfl, hb1⟩; have HB1 := hide hb1; clear hb1) | (go_at_call 95; with_reducible refine (HPRE.out _).mono ?_; rintro e wp ⟨rfl, hwp⟩; obtain rfl := hwp) | (at_lookup; refine wpList_sm_look rfl _ _ rfl b 16 nameN rfl (HM.out.kept HB1.out) C HCS.out rfl ?_; rw [HNM.out]) | (go_at_call 131; with_reducible refine (HNUM.out _ HB1.out).mono ?_; rintro e w2 ⟨rfl, hb2⟩; have HB2 := hide (HB1.out.trans (hb2.mono HB1.out.size)); clear hb2))
          go_ret2
          exact ⟨by rw [HR.out]; rfl, HB2.out⟩
      | some x =>
        rw [hsn] at hsg
        rw [hsn] at hnum
        simp only [entV] at hnum
        have HNUM := hide hnum
        cases hend : hasC 59 (R.data.toList.take 9) with
        | false =>
          have HR : Hid (refN R.data.toList = (0, 0)) := hide (by unfold refN; rw [← hCt, hsg, hend])
          rw [hend] at hcut
          have HCUT := hide hcut
          clear hcut hsg hsn hend hp hpre hT hU hv hev hM hC hCt hDt hD hN hNt zC hnm hnum hds
          go_enter Tryz.func91, Tryz.ntmps91
          go_wp2_with (first | (go_at_call 90; with_reducible refine (HCUT.out _).mono ?_; rintro e w1 ⟨rfl, hb1⟩; have HB1 := hide hb1; clear hb1) | (go_at_call 95; with_reducible refine (HPRE.out _).mono ?_; rintro e wp ⟨rfl, hwp⟩; obtain rfl := hwp) | (at_lookup; refine wpList_sm_look rfl _ _ rfl b 16 nameN rfl (HM.out.kept HB1.out) C HCS.out rfl ?_; rw [HNM.out]) | (go_at_call 131; with_reducible refine (HNUM.out _ HB1.out).mono ?_; rintro e w2 ⟨rfl, hb2⟩; have HB2 := hide (HB1.out.trans (hb2.mono HB1.out.size)); clear hb2))
          go_ret2
          exact ⟨by rw [HR.out]; rfl, HB2.out⟩
        | true =>
          have HR : Hid (refN R.data.toList = (x, C.size + 1)) := hide (by unfold refN; rw [← hCt, hsg, hend]; simp only [toList_length])
          rw [hend] at hcut
          have HCUT := hide hcut
          clear hcut hsg hsn hend hp hpre hT hU hv hev hM hC hCt hDt hD hN hNt zC hnm hnum hds
          go_enter Tryz.func91, Tryz.ntmps91
          go_wp2_with (first | (go_at_call 90; with_reducible refine (HCUT.out _).mono ?_; rintro e w1 ⟨rfl, hb1⟩; have HB1 := hide hb1; clear hb1) | (go_at_call 95; with_reducible refine (HPRE.out _).mono ?_; rintro e wp ⟨rfl, hwp⟩; obtain rfl := hwp) | (at_lookup; refine wpList_sm_look rfl _ _ rfl b 16 nameN rfl (HM.out.kept HB1.out) C HCS.out rfl ?_; rw [HNM.out]) | (go_at_call 131; with_reducible refine (HNUM.out _ HB1.out).mono ?_; rintro e w2 ⟨rfl, hb2⟩; have HB2 := hide (HB1.out.trans (hb2.mono HB1.out.size)); clear hb2))
          go_ret2
          exact ⟨by rw [HR.out]; rfl, HB2.out⟩
  · have m1 : decide ((R.size : Int) < 9) = false := decide_eq_false (by omega)
    have mn : min (R.size : Int) 9 = 9 := by omega
    have m4 : (9 : Int) ≤ R.size := by omega
    obtain ⟨N, hN⟩ : ∃ N, N = R.extract 0 9 := ⟨_, rfl⟩
    have hNt : N.data.toList = R.data.toList.take 9 := by rw [hN, extract_list, List.drop_zero]
    have hcut := fun w1 => strCut_any N 59 w1 (by rw [← toList_length, hNt]; exact Nat.le_trans (List.length_take_le _ _) (by decide))
    simp only [cutV] at hcut
    rw [hNt, ← hC, hN] at hcut
    cases hp : Lib.hasPrefix C.data.toList [35]
    · have HP : Hid (Lib.hasPrefix C.data.toList [35] = false) := hide hp
      rw [hp] at hpre
      have HPRE := hide hpre
      have hsg : sgn C.data.toList = nameN C.data.toList := by unfold sgn; rw [hp, if_neg (by decide)]
      cases hsn : nameN C.data.toList with
      | none =>
        rw [hsn] at hsg
        have HNM := hide hsn
        cases hend : hasC 59 (R.data.toList.take 9) with
        | false =>
          have HR : Hid (refN R.data.toList = (0, 0)) := hide (by unfold refN; rw [← hCt, hsg, hend])
          rw [hend] at hcut
          have HCUT := hide hcut
          clear hcut hsg hsn hend hp hpre hT hU hv hev hM hC hCt hDt hD hN hNt zC
          go_enter Tryz.func91, Tryz.ntmps91
          go_wp2_with (first | (go_at_call 90; with_reducible refine (HCUT.out _).mono ?_; rintro e w1 ⟨rfl, hb1⟩; have HB1 := hide hb1; clear hb1) | (go_at_call 95; with_reducible refine (HPRE.out _).mono ?_; rintro e wp ⟨rfl, hwp⟩; obtain rfl := hwp) | (at_lookup; refine wpList_sm_look rfl _ _ rfl b 16 nameN rfl (HM.out.kept HB1.out) C HCS.out rfl ?_; rw [HNM.out]))
          go_ret2
          exact ⟨by rw [HR.out]; rfl, HB1.out⟩
        | true =>
          have HR : Hid (refN R.data.toList = (0, 0)) := hide (by unfold refN; rw [← hCt, hsg, hend])
          rw [hend] at hcut
          have HCUT := hide hcut
          clear hcut hsg hsn hend hp hpre hT hU hv hev hM hC hCt hDt hD hN hNt zC
          go_enter Tryz.func91, Tryz.ntmps91
          go_wp2_with (first | (go_at_call 90; with_reducible refine (HCUT.out _).mono ?_; rintro e w1 ⟨rfl, hb1⟩; have HB1 := hide hb1; clear hb1) | (go_at_call 95; with_reducible refine (HPRE.out _).mono ?_; rintro e wp ⟨rfl, hwp⟩; obtain rfl := hwp) | (at_lookup; refine wpList_sm_look rfl _ _ rfl b 16 nameN rfl (HM.out.kept HB1.out) C HCS.out rfl ?_; rw [HNM.out]))
          go_ret2
          exact ⟨by rw [HR.out]; rfl, HB1.out⟩
      | some x =>
        rw [hsn] at hsg
        have HNM := hide hsn
        cases hend : hasC 59 (R.data.toList.take 9) with
        | false =>
          have HR : Hid (refN R.data.toList = (0, 0)) := hide (by unfold refN; rw [← hCt, hsg, hend])
          rw [hend] at hcut
          have HCUT := hide hcut
          clear hcut hsg hsn hend hp hpre hT hU hv hev hM hC hCt hDt hD hN hNt zC
          go_enter Tryz.func91, Tryz.ntmps91
          go_wp2_with (first | (go_at_call 90; with_reducible refine (HCUT.out _).mono ?_; rintro e w1 ⟨rfl, hb1⟩; have HB1 := hide hb1; clear hb1) | (go_at_call 95; with_reducible refine (HPRE.out _).mono ?_; rintro e wp ⟨rfl, hwp⟩; obtain rfl := hwp) | (at_lookup; refine wpList_sm_look rfl _ _ rfl b 16 nameN rfl (HM.out.kept HB1.out) C HCS.out rfl ?_; rw [HNM.out]))
          go_ret2
          exact ⟨by rw [HR.out]; rfl, HB1.out⟩
        | true =>
          have HR : Hid (refN R.data.toList = (x, C.size + 1)) := hide (by unfold refN; rw [← hCt, hsg, hend]; simp only [toList_length])
          rw [hend] at hcut
          have HCUT := hide hcut
          clear hcut hsg hsn hend hp hpre hT hU hv hev hM hC hCt hDt hD hN hNt zC
          go_enter Tryz.func91, Tryz.ntmps91
          go_wp2_with (first | (go_at_call 90; with_reducible refine (HCUT.out _).mono ?_; rintro e w1 ⟨rfl, hb1⟩; have HB1 := hide hb1; clear hb1) | (go_at_call 95; with_reducible refine (HPRE.out _).mono ?_; rintro e wp ⟨rfl, hwp⟩; obtain rfl := hwp) | (at_lookup; refine wpList_sm_look rfl _ _ rfl b 16 nameN rfl (HM.out.kept HB1.out) C HCS.out rfl ?_; rw [HNM.out]))
          go_ret2
          exact ⟨by rw [HR.out]; rfl, HB1.out⟩
    · have HP : Hid (Lib.hasPrefix C.data.toList [35] = true) := hide hp
      rw [hp] at hpre
      have HPRE := hide hpre
      obtain ⟨nm, hnm⟩ : ∃ nm, nameN C.data.toList = nm := ⟨_, rfl⟩
      have HNM := hide hnm
      have hsg : sgn C.data.toList = byN D.data.toList := by unfold sgn; rw [hp, if_pos rfl, hDt]
      have hds : D.size ≤ 8 := dig_size hp hDt (by rw [← hCt] at zC; rw [toList_length] at zC; exact zC)
      have hnum := fun w1 (hb : Below w.heap.size w w1) => byNumber_any D ev w1 hds (hT.below hb hT.lt) (tabs_kept hU hb) ((hb.cell (p := ⟨1, 0, none⟩) (World.block_lt_of_cell? _ _ hv)).trans hv) hev
      cases hsn : byN D.data.toList with
      | none =>
        rw [hsn] at hsg
        rw [hsn] at hnum
        simp only [entV] at hnum
        have HNUM := hide hnum
        cases hend : hasC 59 (R.data.toList.take 9) with
        | false =>
          have HR : Hid (refN R.data.toList = (0, 0)) := hide (by unfold refN; rw [← hCt, hsg, hend])
          rw [hend] at hcut
          have HCUT := hide hcut
          clear hcut hsg hsn hend hp hpre hT hU hv hev hM hC hCt hDt hD hN hNt zC hnm hnum hds
          go_enter Tryz.func91, Tryz.ntmps91
          go_wp2_with (first | (go_at_call 90; with_reducible refine (HCUT.out _).mono ?_; rintro e w1 ⟨rfl, hb1⟩; have HB1 := hide hb1; clear hb1) | (go_at_call 95; with_reducible refine (HPRE.out _).mono ?_; rintro e wp ⟨rfl, hwp⟩; obtain rfl := hwp) | (at_lookup; refine wpList_sm_look rfl _ _ rfl b 16 nameN rfl (HM.out.kept HB1.out) C HCS.out rfl ?_; rw [HNM.out]) | (go_at_call 131; with_reducible refine (HNUM.out _ HB1.out).mono ?_; rintro e w2 ⟨rfl, hb2⟩; have HB2 := hide (HB1.out.trans (hb2.mono HB1.out.size)); clear hb2))
          go_ret2
          exact ⟨by rw [HR.out]; rfl, HB2.out⟩
        | true =>
          have HR : Hid (refN R.data.toList = (0, 0)) := hide (by unfold refN; rw [← hCt, hsg, hend])
          rw [hend] at hcut
          have HCUT := hide hcut
          clear hcut hsg hsn hend hp hpre hT hU hv hev hM hC hCt hDt hD hN hNt zC hnm hnum hds
          go_enter Tryz.func91, Tryz.ntmps91
          go_wp2_with (first | (go_at_call 90; with_reducible refine (HCUT.out _).mono ?_; rintro e w1 ⟨rfl, hb1⟩; have HB1 := hide hb1; clear hb1) | (go_at_call 95; with_reducible refine (HPRE.out _).mono ?_; rintro e wp ⟨rfl, hwp⟩; obtain rfl := hwp) | (at_lookup; refine wpList_sm_look rfl _ _ rfl b 16 nameN rfl (HM.out.kept HB1.out) C HCS.out rfl ?_; rw [HNM.out]) | (go_at_call 131; with_reducible refine (HNUM.out _ HB1.out).mono ?_; rintro e w2 ⟨rfl, hb2⟩; have HB2 := hide (HB1.out.trans (hb2.mono HB1.out.size)); clear hb2))
          go_ret2
          exact ⟨by rw [HR.out]; rfl, HB2.out⟩
      | some x =>
        rw [hsn] at hsg
        rw [hsn] at hnum
        simp only [entV] at hnum
        have HNUM := hide hnum
        cases hend : hasC 59 (R.data.toList.take 9) with
        | false =>
          have HR : Hid (refN R.data.toList = (0, 0)) := hide (by unfold refN; rw [← hCt, hsg, hend])
          rw [hend] at hcut
          have HCUT := hide hcut
          clear hcut hsg hsn hend hp hpre hT hU hv hev hM hC hCt hDt hD hN hNt zC hnm hnum hds
          go_enter Tryz.func91, Tryz.ntmps91
          go_wp2_with (first | (go_at_call 90; with_reducible refine (HCUT.out _).mono ?_; rintro e w1 ⟨rfl, hb1⟩; have HB1 := hide hb1; clear hb1) | (go_at_call 95; with_reducible refine (HPRE.out _).mono ?_; rintro e wp ⟨rfl, hwp⟩; obtain rfl := hwp) | (at_lookup; refine wpList_sm_look rfl _ _ rfl b 16 nameN rfl (HM.out.kept HB1.out) C HCS.out rfl ?_; rw [HNM.out]) | (go_at_call 131; with_reducible refine (HNUM.out _ HB1.out).mono ?_; rintro e w2 ⟨rfl, hb2⟩; have HB2 := hide (HB1.out.trans (hb2.mono HB1.out.size)); clear hb2))
          go_ret2
          exact ⟨by rw [HR.out]; rfl, HB2.out⟩
        | true =>
          have HR : Hid (refN R.data.toList = (x, C.size + 1)) := hide (by unfold refN; rw [← hCt, hsg, hend]; simp only [toList_length])
          rw [hend] at hcut
          have HCUT := hide hcut
          clear hcut hsg hsn hend hp hpre hT hU hv hev hM hC hCt hDt hD hN hNt zC hnm hnum hds
          go_enter Tryz.func91, Tryz.ntmps91
          go_wp2_with (first | (go_at_call 90; with_reducible refine (HCUT.out _).mono ?_; rintro e w1 ⟨rfl, hb1⟩; have HB1 := hide hb1; clear hb1) | (go_at_call 95; with_reducible refine (HPRE.out _).mono ?_; rintro e wp ⟨rfl, hwp⟩; obtain rfl := hwp) | (at_lookup; refine wpList_sm_look rfl _ _ rfl b 16 nameN rfl (HM.out.kept HB1.out) C HCS.out rfl ?_; rw [HNM.out]) | (go_at_call 131; with_reducible refine (HNUM.out _ HB1.out).mono ?_; rintro e w2 ⟨rfl, hb2⟩; have HB2 := hide (HB1.out.trans (hb2.mono HB1.out.size)); clear hb2))
          go_ret2
          exact ⟨by rw [HR.out]; rfl, HB2.out⟩
end Go.Proofs.YtgokefodmjhhiaaGreatDoor

/- WALKS of strings.Builder's copyCheck and WriteString at this dump, and small words for a builder of bytes. No statement is proved here. -/
namespace Go.Proofs.YtgokefodmjhhiaaGreatDoor
open Go.RowKit
set_option linter.unusedVariables false
set_option linter.unusedSimpArgs false

theorem bldSize : (Tryz.prog.info? 50).map (·.size) = some 2 := by kernel_rfl
theorem bldLies : liesAt Tryz.prog Tryz.prog.depth 50 (2 / Tryz.prog.cellsOf 50) 0 50 1 = true := by kernel_rfl

/-- the builder in block b has gathered the bytes l; below B all is as in W0 -/
def Bld (B b : Nat) (l : List UInt8) (W0 w : World) : Prop := Lib.IsBuilder 50 5 B b (cellsOf l) w ∧ Below B W0 w ∧ B ≤ w.heap.size

set_option maxRecDepth 100000 in
set_option maxHeartbeats 1000000 in
theorem copyCheck_used (b : Nat) (w : World) (h0 : w.cell? ⟨b, 0, none⟩ = some (.pointer (some ⟨b, 0, none⟩))) :
    Calls Tryz.prog 87 #[.pointer (some ⟨b, 0, none⟩)] w fun e w' => e = .returned (.tuple #[]) ∧ w = w' := by
  obtain ⟨j, hj, _⟩ := Option.map_eq_some_iff.1 bldSize
  have hne := fun w : World => Lib.run_neq_ptr_same (P := Tryz.prog) w ⟨b, 0, none⟩ Tryz.underlying47 hj
  go_enter Tryz.func87, Tryz.ntmps87
  go_wp2
  go_end0
  exact ⟨rfl, rfl⟩

set_option maxRecDepth 100000 in
set_option maxHeartbeats 1000000 in
theorem copyCheck_fresh (b : Nat) (w : World) (h0 : w.cell? ⟨b, 0, none⟩ = some (.pointer none)) (hsh : w.shape? b = some (50, 2)) (hfz : w.frozen? ⟨b, 0, none⟩ = false) :
    Calls Tryz.prog 87 #[.pointer (some ⟨b, 0, none⟩)] w fun e w' => e = .returned (.tuple #[]) ∧ w.setCell ⟨b, 0, none⟩ (.pointer (some ⟨b, 0, none⟩)) = w' := by
  obtain ⟨j, hj, hjs⟩ := Option.map_eq_some_iff.1 bldSize
  have c1 := Lib.run_to_unsafe (P := Tryz.prog) w ⟨b, 0, none⟩ Tryz.underlying47 Tryz.underlying130 hj (by rw [hjs]; decide) hsh (Nat.zero_lt_succ 1)
  have c2 := Lib.run_from_unsafe (P := Tryz.prog) w ⟨b, 0, none⟩ Tryz.underlying130 Tryz.underlying47 hj hsh bldLies
  have ce := fun w : World => run_callFunc_extern (P := Tryz.prog) (w := w) (args := #[Value.pointer (some ⟨b, 0, none⟩)]) Tryz.func128 (by kernel_rfl) (by kernel_rfl) (by kernel_rfl) (e := Extern.AbiNoEscape.same) (by kernel_rfl)
  have cn := fun w : World => Lib.run_noEscape (P := Tryz.prog) (w := w) (Value.pointer (some ⟨b, 0, none⟩))
  go_enter Tryz.func87, Tryz.ntmps87
  go_wp2
  go_end0
  exact ⟨rfl, rfl⟩

theorem copyCheck_any (B b : Nat) (bs : List Value) (w : World) (h : Lib.IsBuilder 50 5 B b bs w) :
    Calls Tryz.prog 87 #[.pointer (some ⟨b, 0, none⟩)] w fun e w' => e = .returned (.tuple #[]) ∧ (Lib.BuilderAt 50 5 B b (.pointer (some ⟨b, 0, none⟩)) bs w' ∧ Below B w w') := by
  rcases h with h | h
  · refine (copyCheck_fresh b w h.cell0 h.shape h.frozen0).mono ?_
    rintro e w' ⟨rfl, rfl⟩
    exact ⟨rfl, h.used _, (Below.refl B w).setCell (p := ⟨b, 0, none⟩) h.1 _⟩
  · refine (copyCheck_used b w h.cell0).mono ?_
    rintro e w' ⟨rfl, rfl⟩
    exact ⟨rfl, h, Below.refl B _⟩

set_option maxRecDepth 100000 in
set_option maxHeartbeats 1000000 in
theorem writeString_any (B b : Nat) (l : List UInt8) (s : ByteArray) (W0 w : World) (h : Bld B b l W0 w) (hlen : l.length + s.size ≤ 140737488355328) :
    Calls Tryz.prog 45 #[.pointer (some ⟨b, 0, none⟩), .string s] w fun e w' => e = .returned (.tuple #[.int .i64 s.size, .nilIface]) ∧ Bld B b (l ++ s.data.toList) W0 w' := by
  obtain ⟨h, hbel, hBw⟩ := h
  obtain ⟨i0, hi, hz0, hz1, hz2⟩ := info_parts info_u8
  have HBL := hide hbel
  clear hbel
  go_enter Tryz.func45, Tryz.ntmps45
  go_wp2_with fail
  refine (copyCheck_any B b (cellsOf l) _ h).mono ?_
  rintro e w1 ⟨rfl, h1, hb1⟩
  obtain ⟨hB, v, hbk, hown, hne⟩ := h1
  have c1 : w1.cell? ⟨b, 1, none⟩ = some v := by rw [Lib.cell_of_heap hbk]; rfl
  have hlt : b < w1.heap.size := lt_of_block hbk
  have hl1 : (cellsOf l).length = l.length := cellsOf_length l
  have HBK := hide hbk
  have HOWN := hide hown
  have HNE := hide hne
  have HB1 := hide hb1
  have hsz1 := hb1.size
  have HI := hide hi
  have HZ0 := hide hz0
  have HZ1 := hide hz1
  have HZ2 := hide hz2
  have HL1 := hide hl1
  clear hbk hown hne hb1 hi hz0 hz1 hz2 h
  go_wp2_with (refine Lib.wpList_append_own_string _ rfl _ _ 48 9 rfl B 5 i0 Tryz.underlying48 Tryz.underlying9 HI.out HZ0.out HZ1.out HZ2.out v (cellsOf l).length (cellsOf l) rfl HOWN.out s rfl (by rw [HL1.out]; unfold maxLen; omega) (by rw [HL1.out]; omega) (by omega) ?_
               intro v' w2 hown' hgrow _
               obtain ⟨ao, n', cap, rfl⟩ : ∃ ao n' cap, v' = .slice ao n' cap := by
                 rcases hown'.2 with ⟨hv, _⟩ | ⟨g, cap, cur, hv, _⟩
                 · exact ⟨_, _, _, hv⟩
                 · exact ⟨_, _, _, hv⟩
               have hb2 : w2.heap[b]? = some (.cells #[.pointer (some ⟨b, 0, none⟩), v] 50 (0, 0)) := by
                 rw [hgrow.block b hlt (fun e => HNE.out e.symm)]
                 exact HBK.out
               have d1 : w2.cell? ⟨b, 1, none⟩ = some v := by rw [Lib.cell_of_heap hb2]; rfl
               have f1 : w2.frozen? ⟨b, 1, none⟩ = false := Lib.frozen_of_heap hb2 1
               have HO2 := hide hown'
               have HG2 := hide hgrow
               have HB2 := hide hb2
               clear hown' hgrow hb2)
  go_ret2
  have hb3 : Below B w w2 := HB1.out.grown HG2.out (by omega) (fun k hk => (HOWN.out.lt k hk).1)
  refine ⟨rfl, .inr ?_, (HBL.out.trans hb3).setCell (p := ⟨b, 1, none⟩) hB _, ?_⟩
  · refine Lib.BuilderAt.put (T := 50) (e := 5) hB HB2.out (bs' := cellsOf (l ++ s.data.toList)) ?_ (by decide)
    have ho := HO2.out
    have e1 : cellsOf (l ++ s.data.toList) = cellsOf l ++ Lib.strCells s := by rw [cellsOf_str, cellsOf, List.map_append]; rfl
    rw [e1, List.length_append, Lib.strCells_length]
    exact ho
  · have := hb3.size
    simp [World.setCell]
    omega

theorem Bld.string {B b : Nat} {l : List UInt8} {W0 w : World} (h : Bld B b l W0 w) :
    Calls Tryz.prog 81 #[.pointer (some ⟨b, 0, none⟩)] w fun e w' => e = .returned (.string (str l)) ∧ Below B W0 w' :=
  (Tryz.Builder_String_any B b l w h.1 h.2.2).mono fun _ _ ⟨he, hb⟩ => ⟨he, h.2.1.trans hb⟩
theorem Bld.kept {B b : Nat} {l : List UInt8} {W0 w w' : World} (h : Bld B b l W0 w) (hb : Below w.heap.size w w') : Bld B b l W0 w' := by
  obtain ⟨h1, h2, h3⟩ := h
  refine ⟨?_, h2.trans (hb.mono h3), Nat.le_trans h3 hb.size⟩
  have key : ∀ p, Lib.BuilderAt 50 5 B b p (cellsOf l) w → Lib.BuilderAt 50 5 B b p (cellsOf l) w' := by
    intro p h
    have hlt := h.lt
    obtain ⟨hB, v, hbk, hown, hne⟩ := h
    exact ⟨hB, v, (hb.block b hlt).trans hbk, hown.kept (row := none) ⟨hb.os, hb.tape, hb.output, hb.size, fun k hk _ => hb.block k hk⟩ (by cases hv : v.ownBlock <;> simp), hne⟩
  rcases h1 with h | h
  · exact .inl (key _ h)
  · exact .inr (key _ h)
/-- 'var b strings.Builder' -/
theorem Bld.new {B : Nat} {W0 w : World} (hb : Below B W0 w) (hB : B ≤ w.heap.size) : Bld B w.heap.size [] W0 (w.alloc (.cells #[.pointer none, .slice none 0 0] 50)) :=
  ⟨.inl ⟨hB, .slice none 0 0, heap_alloc_new w _, World.ownsRow_nil _ B _ 1, by simp [Value.ownBlock]⟩, hb.alloc hB _, by simp; omega⟩
end Go.Proofs.YtgokefodmjhhiaaGreatDoor

/- WALK of (*strings.Builder).WriteRune. No statement is proved here. -/
namespace Go.Proofs.YtgokefodmjhhiaaGreatDoor
open Go.RowKit
set_option linter.unusedVariables false
set_option linter.unusedSimpArgs false
set_option maxRecDepth 100000
set_option maxHeartbeats 2000000 in
theorem writeRune_any (B b : Nat) (l : List UInt8) (r : Int) (h0 : 0 ≤ r) (h1r : r ≤ 1114111) (W0 w : World) (h : Bld B b l W0 w) (hlen : l.length + 4 ≤ 140737488355328) :
    Calls Tryz.prog 92 #[.pointer (some ⟨b, 0, none⟩), .int .i32 r] w fun e w' => (∃ n, e = .returned (.tuple #[.int .i64 n, .nilIface])) ∧ Bld B b (l ++ runeL r) W0 w' := by
  obtain ⟨h, hbel, hBw⟩ := h
  have HBL := hide hbel
  clear hbel
  go_enter Tryz.func92, Tryz.ntmps92
  go_wp2_with fail
  refine (copyCheck_any B b (cellsOf l) _ h).mono ?_
  rintro e w1 ⟨rfl, h1, hb1⟩
  obtain ⟨hB, v, hbk, hown, hne⟩ := h1
  have c1 : w1.cell? ⟨b, 1, none⟩ = some v := by rw [Lib.cell_of_heap hbk]; rfl
  have hlt : b < w1.heap.size := lt_of_block hbk
  have hl1 : (cellsOf l).length = l.length := cellsOf_length l
  rw [hl1] at hown
  obtain ⟨A, cp, rfl⟩ : ∃ A cp, v = .slice A l.length cp := by
    rcases hown.2 with ⟨hv, hz⟩ | ⟨g, cap, cur, hv, _⟩
    · rw [hz]; exact ⟨_, _, hv⟩
    · exact ⟨_, _, hv⟩
  have HBK := hide hbk
  have HOWN := hide hown
  have HNE := hide hne
  have HB1 := hide hb1
  have hsz1 := hb1.size
  have HAR := hide (Tryz.utf8_AppendRune_plain B (.slice A l.length cp) l.length (cellsOf l) r (by omega) (by omega) w1 hown (by omega) (by omega))
  clear hbk hown hne hb1 h hl1
  go_wp2_with (go_at_call 132; refine HAR.out.mono ?_; rintro e w2 ⟨v', rfl, ho, o, hg⟩
               have e1 : Lib.runeCells r = cellsOf (runeL r) := (Lib.byteCells_encodeRune r).symm
               have e2 : (Lib.runeCells r).length = (runeL r).length := by rw [e1, cellsOf_length]
               rw [e2, e1] at ho
               obtain ⟨ao, cap, rfl⟩ : ∃ ao cap, v' = .slice ao (l.length + (runeL r).length) cap := by
                 rcases ho.2 with ⟨hv, hz⟩ | ⟨g, cap, cur, hv, _⟩
                 · rw [hz]; exact ⟨_, _, hv⟩
                 · exact ⟨_, _, hv⟩
               have hb2 : w2.heap[b]? = some (.cells #[.pointer (some ⟨b, 0, none⟩), .slice A l.length cp] 50 (0, 0)) := by
                 rw [hg.block b (Nat.lt_of_lt_of_le hlt ((Below.refl 0 w1).alloc (Nat.zero_le _) o).size) (fun e => HNE.out e.symm), Below.heap_alloc w1 o b hlt]
                 exact HBK.out
               have d1 : w2.cell? ⟨b, 1, none⟩ = some (.slice A l.length cp) := by rw [Lib.cell_of_heap hb2]; rfl
               have f1 : w2.frozen? ⟨b, 1, none⟩ = false := Lib.frozen_of_heap hb2 1
               obtain ⟨w3, hw3⟩ : ∃ w3, w3 = w2.setCell ⟨b, 1, none⟩ (.slice ao (l.length + (runeL r).length) cap) := ⟨_, rfl⟩
               have g1 : (w2.setCell ⟨b, 1, none⟩ (.slice ao (l.length + (runeL r).length) cap)).cell? ⟨b, 1, none⟩ = some (.slice ao (l.length + (runeL r).length) cap) := World.cell?_setCell_same _ _ _ d1
               have HO2 := hide ho
               have HG2 : Hid (Below B w w2) := hide ((HB1.out.alloc (by omega) o).grown hg (Nat.le_trans (by omega) ((Below.refl 0 w1).alloc (Nat.zero_le _) o).size) (fun k hk => (HOWN.out.lt k hk).1))
               have HB2 := hide hb2
               clear ho hg hb2 e1 e2 hw3)
  go_ret2
  refine ⟨⟨_, rfl⟩, .inr ?_, (HBL.out.trans HG2.out).setCell (p := ⟨b, 1, none⟩) hB _, ?_⟩
  · refine Lib.BuilderAt.put (T := 50) (e := 5) hB HB2.out (bs' := cellsOf (l ++ runeL r)) ?_ (by decide)
    have ho := HO2.out
    have e1 : cellsOf (l ++ runeL r) = cellsOf l ++ cellsOf (runeL r) := by rw [cellsOf, List.map_append]; rfl
    rw [e1, List.length_append, cellsOf_length, cellsOf_length]
    exact ho
  · have := HG2.out.size
    simp [World.setCell]
    omega
end Go.Proofs.YtgokefodmjhhiaaGreatDoor

/- WALKS of a builder's WriteString, that leaves maps as they are. No statement is proved here. -/
namespace Go.Proofs.YtgokefodmjhhiaaGreatDoor
open Go.RowKit
set_option linter.unusedVariables false
set_option linter.unusedSimpArgs false
set_option maxRecDepth 100000
/-- blocks that are maps are as they were -/
def KM (w w' : World) : Prop := ∀ (m : Nat) es c, w.heap[m]? = some (Obj.map es c) → w'.heap[m]? = some (Obj.map es c)
theorem KM.refl (w : World) : KM w w := fun _ _ _ h => h
theorem KM.trans {a b c : World} (h : KM a b) (k : KM b c) : KM a c := fun m es x hm => k m es x (h m es x hm)
theorem KM.alloc (w : World) (o : Obj) : KM w (w.alloc o) := fun m es x hm => (Below.heap_alloc w o m (Array.getElem?_eq_some_iff.1 hm).1).trans hm
theorem KM.below {w w' : World} (h : Below w.heap.size w w') : KM w w' := fun m es x hm => (h.block m (Array.getElem?_eq_some_iff.1 hm).1).trans hm
theorem KM.set {w : World} {b : Nat} {cs : Array Value} {t : TypeId} {fr : Nat × Nat} (h : w.heap[b]? = some (.cells cs t fr)) (i : Nat) (v : Value) : KM w (w.setCell ⟨b, i, none⟩ v) := fun m es x hm => by
  have hne : m ≠ b := by rintro rfl; rw [h] at hm; cases hm
  exact (Below.heap_setCell w _ v m hne).trans hm
theorem KM.own {w w' : World} {B n : Nat} {e : TypeId} {v : Value} {xs : List Value} (h : w.ownsRow B e 1 v n xs) (hg : w.grownBy w' v.ownBlock) : KM w w' := fun m es x hm => by
  refine (hg.block m (Array.getElem?_eq_some_iff.1 hm).1 (fun he => ?_)).trans hm
  rcases h.2 with ⟨rfl, _⟩ | ⟨g, cap, cur, rfl, _, hh, _⟩
  · simp [Value.ownBlock] at he
  · have e1 : g = m := by simpa [Value.ownBlock] using he.symm
    subst e1
    rw [hh] at hm; cases hm
theorem copyCheckM_any (B b : Nat) (bs : List Value) (w : World) (h : Lib.IsBuilder 50 5 B b bs w) :
    Calls Tryz.prog 87 #[.pointer (some ⟨b, 0, none⟩)] w fun e w' => e = .returned (.tuple #[]) ∧ Lib.BuilderAt 50 5 B b (.pointer (some ⟨b, 0, none⟩)) bs w' ∧ Below B w w' ∧ KM w w' := by
  rcases h with h | h
  · obtain ⟨hB, v, hbk, ho, hne⟩ := id h
    refine (copyCheck_fresh b w h.cell0 h.shape h.frozen0).mono ?_
    rintro e w' ⟨rfl, rfl⟩
    exact ⟨rfl, h.used _, (Below.refl B w).setCell (p := ⟨b, 0, none⟩) h.1 _, KM.set hbk _ _⟩
  · refine (copyCheck_used b w h.cell0).mono ?_
    rintro e w' ⟨rfl, rfl⟩
    exact ⟨rfl, h, Below.refl B _, KM.refl _⟩
set_option maxHeartbeats 1000000 in
theorem writeStringM_any (B b : Nat) (l : List UInt8) (s : ByteArray) (W0 w : World) (h : Bld B b l W0 w) (hlen : l.length + s.size ≤ 140737488355328) :
    Calls Tryz.prog 45 #[.pointer (some ⟨b, 0, none⟩), .string s] w fun e w' => e = .returned (.tuple #[.int .i64 s.size, .nilIface]) ∧ Bld B b (l ++ s.data.toList) W0 w' ∧ KM w w' := by
  obtain ⟨h, hbel, hBw⟩ := h
  obtain ⟨i0, hi, hz0, hz1, hz2⟩ := info_parts info_u8
  have HBL := hide hbel
  clear hbel
  go_enter Tryz.func45, Tryz.ntmps45
  go_wp2_with fail
  refine (copyCheckM_any B b (cellsOf l) _ h).mono ?_
  rintro e w1 ⟨rfl, h1, hb1, hk1⟩
  have HK1 := hide hk1
  clear hk1
  obtain ⟨hB, v, hbk, hown, hne⟩ := h1
  have c1 : w1.cell? ⟨b, 1, none⟩ = some v := by rw [Lib.cell_of_heap hbk]; rfl
  have hlt : b < w1.heap.size := lt_of_block hbk
  have hl1 : (cellsOf l).length = l.length := cellsOf_length l
  have HBK := hide hbk
  have HOWN := hide hown
  have HNE := hide hne
  have HB1 := hide hb1
  have hsz1 := hb1.size
  have HI := hide hi
  have HZ0 := hide hz0
  have HZ1 := hide hz1
  have HZ2 := hide hz2
  have HL1 := hide hl1
  clear hbk hown hne hb1 hi hz0 hz1 hz2 h
  go_wp2_with (refine Lib.wpList_append_own_string _ rfl _ _ 48 9 rfl B 5 i0 Tryz.underlying48 Tryz.underlying9 HI.out HZ0.out HZ1.out HZ2.out v (cellsOf l).length (cellsOf l) rfl HOWN.out s rfl (by rw [HL1.out]; unfold maxLen; omega) (by rw [HL1.out]; omega) (by omega) ?_
               intro v' w2 hown' hgrow _
               obtain ⟨ao, n', cap, rfl⟩ : ∃ ao n' cap, v' = .slice ao n' cap := by
                 rcases hown'.2 with ⟨hv, _⟩ | ⟨g, cap, cur, hv, _⟩
                 · exact ⟨_, _, _, hv⟩
                 · exact ⟨_, _, _, hv⟩
               have hb2 : w2.heap[b]? = some (.cells #[.pointer (some ⟨b, 0, none⟩), v] 50 (0, 0)) := by
                 rw [hgrow.block b hlt (fun e => HNE.out e.symm)]
                 exact HBK.out
               have d1 : w2.cell? ⟨b, 1, none⟩ = some v := by rw [Lib.cell_of_heap hb2]; rfl
               have f1 : w2.frozen? ⟨b, 1, none⟩ = false := Lib.frozen_of_heap hb2 1
               have HKM := hide (HK1.out.trans (KM.own HOWN.out hgrow))
               have HO2 := hide hown'
               have HG2 := hide hgrow
               have HB2 := hide hb2
               clear hown' hgrow hb2)
  go_ret2
  have hb3 : Below B w w2 := HB1.out.grown HG2.out (by omega) (fun k hk => (HOWN.out.lt k hk).1)
  refine ⟨rfl, ⟨.inr ?_, (HBL.out.trans hb3).setCell (p := ⟨b, 1, none⟩) hB _, ?_⟩, HKM.out.trans (KM.set HB2.out _ _)⟩
  · refine Lib.BuilderAt.put (T := 50) (e := 5) hB HB2.out (bs' := cellsOf (l ++ s.data.toList)) ?_ (by decide)
    have ho := HO2.out
    have e1 : cellsOf (l ++ s.data.toList) = cellsOf l ++ Lib.strCells s := by rw [cellsOf_str, cellsOf, List.map_append]; rfl
    rw [e1, List.length_append, Lib.strCells_length]
    exact ho
  · have := hb3.size
    simp [World.setCell]
    omega

end Go.Proofs.YtgokefodmjhhiaaGreatDoor

/- WALK of a builder's WriteRune, that leaves maps as they are. No statement is proved here. -/
namespace Go.Proofs.YtgokefodmjhhiaaGreatDoor
open Go.RowKit
set_option linter.unusedVariables false
set_option linter.unusedSimpArgs false
set_option maxRecDepth 100000
theorem SMapN.km {w w' : World} {b n : Nat} {f : List UInt8 → Option Int} (h : SMapN w b n f) (hk : KM w w') : SMapN w' b n f := by
  obtain ⟨D, ⟨es, c, h1, h2, h3, h4⟩, h5⟩ := h
  exact ⟨D, ⟨es, c, hk b es c h1, h2, h3, h4⟩, h5⟩
set_option maxHeartbeats 2000000 in
theorem writeRuneM_any (B b : Nat) (l : List UInt8) (r : Int) (h0 : 0 ≤ r) (h1r : r ≤ 1114111) (W0 w : World) (h : Bld B b l W0 w) (hlen : l.length + 4 ≤ 140737488355328) :
    Calls Tryz.prog 92 #[.pointer (some ⟨b, 0, none⟩), .int .i32 r] w fun e w' => (∃ n, e = .returned (.tuple #[.int .i64 n, .nilIface])) ∧ Bld B b (l ++ runeL r) W0 w' ∧ KM w w' := by
  obtain ⟨h, hbel, hBw⟩ := h
  have HBL := hide hbel
  clear hbel
  go_enter Tryz.func92, Tryz.ntmps92
  go_wp2_with fail
  refine (copyCheckM_any B b (cellsOf l) _ h).mono ?_
  rintro e w1 ⟨rfl, h1, hb1, hk1⟩
  have HK1 := hide hk1
  clear hk1
  obtain ⟨hB, v, hbk, hown, hne⟩ := h1
  have c1 : w1.cell? ⟨b, 1, none⟩ = some v := by rw [Lib.cell_of_heap hbk]; rfl
  have hlt : b < w1.heap.size := lt_of_block hbk
  have hl1 : (cellsOf l).length = l.length := cellsOf_length l
  rw [hl1] at hown
  obtain ⟨A, cp, rfl⟩ : ∃ A cp, v = .slice A l.length cp := by
    rcases hown.2 with ⟨hv, hz⟩ | ⟨g, cap, cur, hv, _⟩
    · rw [hz]; exact ⟨_, _, hv⟩
    · exact ⟨_, _, hv⟩
  have HBK := hide hbk
  have HOWN := hide hown
  have HNE := hide hne
  have HB1 := hide hb1
  have hsz1 := hb1.size
  have HAR := hide (Tryz.utf8_AppendRune_plain B (.slice A l.length cp) l.length (cellsOf l) r (by omega) (by omega) w1 hown (by omega) (by omega))
  clear hbk hown hne hb1 h hl1
  go_wp2_with (go_at_call 132; refine HAR.out.mono ?_; rintro e w2 ⟨v', rfl, ho, o, hg⟩
               have e1 : Lib.runeCells r = cellsOf (runeL r) := (Lib.byteCells_encodeRune r).symm
               have e2 : (Lib.runeCells r).length = (runeL r).length := by rw [e1, cellsOf_length]
               rw [e2, e1] at ho
               obtain ⟨ao, cap, rfl⟩ : ∃ ao cap, v' = .slice ao (l.length + (runeL r).length) cap := by
                 rcases ho.2 with ⟨hv, hz⟩ | ⟨g, cap, cur, hv, _⟩
                 · rw [hz]; exact ⟨_, _, hv⟩
                 · exact ⟨_, _, hv⟩
               have hb2 : w2.heap[b]? = some (.cells #[.pointer (some ⟨b, 0, none⟩), .slice A l.length cp] 50 (0, 0)) := by
                 rw [hg.block b (Nat.lt_of_lt_of_le hlt ((Below.refl 0 w1).alloc (Nat.zero_le _) o).size) (fun e => HNE.out e.symm), Below.heap_alloc w1 o b hlt]
                 exact HBK.out
               have d1 : w2.cell? ⟨b, 1, none⟩ = some (.slice A l.length cp) := by rw [Lib.cell_of_heap hb2]; rfl
               have f1 : w2.frozen? ⟨b, 1, none⟩ = false := Lib.frozen_of_heap hb2 1
               obtain ⟨w3, hw3⟩ : ∃ w3, w3 = w2.setCell ⟨b, 1, none⟩ (.slice ao (l.length + (runeL r).length) cap) := ⟨_, rfl⟩
               have g1 : (w2.setCell ⟨b, 1, none⟩ (.slice ao (l.length + (runeL r).length) cap)).cell? ⟨b, 1, none⟩ = some (.slice ao (l.length + (runeL r).length) cap) := World.cell?_setCell_same _ _ _ d1
               have HKM := hide (HK1.out.trans ((KM.alloc w1 o).trans (KM.own (HOWN.out.alloc o) hg)))
               have HO2 := hide ho
               have HG2 : Hid (Below B w w2) := hide ((HB1.out.alloc (by omega) o).grown hg (Nat.le_trans (by omega) ((Below.refl 0 w1).alloc (Nat.zero_le _) o).size) (fun k hk => (HOWN.out.lt k hk).1))
               have HB2 := hide hb2
               clear ho hg hb2 e1 e2 hw3)
  go_ret2
  refine ⟨⟨_, rfl⟩, ⟨.inr ?_, (HBL.out.trans HG2.out).setCell (p := ⟨b, 1, none⟩) hB _, ?_⟩, HKM.out.trans (KM.set HB2.out _ _)⟩
  · refine Lib.BuilderAt.put (T := 50) (e := 5) hB HB2.out (bs' := cellsOf (l ++ runeL r)) ?_ (by decide)
    have ho := HO2.out
    have e1 : cellsOf (l ++ runeL r) = cellsOf l ++ cellsOf (runeL r) := by rw [cellsOf, List.map_append]; rfl
    rw [e1, List.length_append, cellsOf_length, cellsOf_length]
    exact ho
  · have := HG2.out.size
    simp [World.setCell]
    omega
end Go.Proofs.YtgokefodmjhhiaaGreatDoor

/- WALK of ent.Decode. No statement is proved here. -/
namespace Go.Proofs.YtgokefodmjhhiaaGreatDoor
open Go.RowKit
set_option linter.unusedVariables false
set_option linter.unusedSimpArgs false
set_option maxRecDepth 100000
/-- what package ent asks of the world: the listed tables, an error of the library's -/
def EnvE (w : World) : Prop := Tab w ∧ Lib.Utf8Tabs 4 5 w ∧ ∃ ev, w.cell? ⟨1, 0, none⟩ = some ev ∧ (ev = .nilIface ∨ ∃ te pe, ev = .iface te pe)
theorem EnvE.kept {w w' : World} (h : EnvE w) (hb : Below w.heap.size w w') : EnvE w' := by
  obtain ⟨h1, h2, ev, h3, h4⟩ := h
  exact ⟨h1.below hb h1.lt, tabs_kept h2 hb, ev, (hb.cell (p := ⟨1, 0, none⟩) (World.block_lt_of_cell? _ _ h3)).trans h3, h4⟩
/-! ### bounds -/
def SignOK (c : Int) : Prop := 0 ≤ c ∧ c ≤ 1114111
theorem putN_ok {f : List UInt8 → Option Int} {k : List UInt8} {c : Int} (hf : ∀ l x, f l = some x → SignOK x) (hc : SignOK c) : ∀ l x, putN f k c l = some x → SignOK x := by
  intro l x h
  unfold putN at h
  split at h
  · injection h with h; rw [← h]; exact hc
  · exact hf l x h
theorem nameN_ok : ∀ l x, nameN l = some x → SignOK x := by
  unfold nameN
  repeat (refine putN_ok ?_ (by unfold SignOK; decide))
  intro l x h; cases h
theorem signN_ok (n : Nat) : SignOK (signN n) := by
  unfold signN SignOK
  split
  · decide
  · split
    · have := winR_range (UInt8.ofNat n); omega
    · omega
theorem numAt_ok {b m : Nat} {l : List UInt8} : ∀ x, numAt b m l = some x → SignOK x := by
  intro x h
  unfold numAt at h
  split at h
  · cases h
  · split at h
    · cases h
    · injection h with h; rw [← h]; exact signN_ok _
theorem sgn_ok {l : List UInt8} : ∀ x, sgn l = some x → SignOK x := by
  intro x h
  unfold sgn byN at h
  split at h
  · split at h <;> exact numAt_ok x h
  · exact nameN_ok _ x h
theorem refN_ok (l : List UInt8) : SignOK (refN l).1 ∧ (refN l).2 ≤ l.length := by
  unfold refN
  split
  · rename_i x h1 h2
    refine ⟨sgn_ok x h1, ?_⟩
    rcases cut_case 59 (l.take 9) with ⟨h3, h4, _⟩ | ⟨a, r, h3, _, h4, _⟩
    · have : hasC 59 (l.take 9) = false := by unfold hasC; simpa using h3
      rw [this] at h2; cases h2
    · have := congrArg List.length h3
      rw [List.length_append, List.length_cons, List.length_take] at this
      rw [h4]
      show a.length + 1 ≤ _
      omega
  · exact ⟨by unfold SignOK; decide, Nat.zero_le _⟩
/-- a text with references, read -/
def decE (l : List UInt8) : List UInt8 :=
  if h : hasC 38 l = true then
    beforeC 38 l ++ (if 0 < (refN (afterC 38 l)).2 then runeL (refN (afterC 38 l)).1 ++ decE ((afterC 38 l).drop (refN (afterC 38 l)).2) else 38 :: decE (afterC 38 l))
  else l
termination_by l.length
decreasing_by
  all_goals
    rcases cut_case 38 l with ⟨h3, _⟩ | ⟨a, r, h3, _, h4, h5⟩
    · exact absurd h (by unfold hasC; simpa using h3)
    · have := congrArg List.length h3
      rw [List.length_append, List.length_cons] at this
      rw [h5]
      first | (rw [List.length_drop]; omega) | omega
theorem decE_no {l : List UInt8} (h : hasC 38 l = false) : decE l = l := by rw [decE, dif_neg (by rw [h]; decide)]
theorem decE_yes {l : List UInt8} (h : hasC 38 l = true) : decE l = beforeC 38 l ++ (if 0 < (refN (afterC 38 l)).2 then runeL (refN (afterC 38 l)).1 ++ decE ((afterC 38 l).drop (refN (afterC 38 l)).2) else 38 :: decE (afterC 38 l)) := by rw [decE, dif_pos h]
theorem has_cut {c : UInt8} {l : List UInt8} (h : hasC c l = true) : l.length = (beforeC c l).length + 1 + (afterC c l).length := by
  rcases cut_case c l with ⟨h3, _⟩ | ⟨a, r, h3, _, h4, h5⟩
  · exact absurd h (by unfold hasC; simpa using h3)
  · have := congrArg List.length h3
    rw [List.length_append, List.length_cons] at this
    rw [h4, h5]; omega
theorem index_has (c : UInt8) (l : List UInt8) : decide (0 ≤ Lib.indexByte l c) = hasC c l := by
  rcases index_cut c l with ⟨h1, h2, _⟩ | ⟨o, h1, _, h2, _⟩
  · rw [h1]
    have : hasC c l = false := by unfold hasC; simpa using h2
    rw [this]; rfl
  · rw [h1]
    have : hasC c l = true := by unfold hasC; simpa using h2
    rw [this]; exact decide_eq_true (by omega)
set_option maxHeartbeats 4000000 in
theorem entDecode_any (s : ByteArray) (w : World) (hs : s.size ≤ 16777216) (hE : EnvE w) :
    Calls Tryz.prog 46 #[.string s] w fun e w' => e = .returned (.string (str (decE s.data.toList))) ∧ Below w.heap.size w w' := by
  have HC := hide (Tryz.strings_Contains_one s 38 w)
  rw [index_has] at HC
  cases hh : hasC 38 s.data.toList with
  | false =>
    have HR : Hid (decE s.data.toList = s.data.toList) := hide (decE_no hh)
    rw [hh] at HC
    clear hh hE
    go_enter Tryz.func46, Tryz.ntmps46
    go_wp2_with (go_at_call 88; refine HC.out.mono ?_; rintro e w1 ⟨rfl, hw⟩; obtain rfl := hw.symm)
    go_ret
    exact ⟨by rw [HR.out, str_of]; rfl, Below.refl _ _⟩
  | true =>
    rw [hh] at HC
    have HE := hide hE
    have KB : Hid (Below w.heap.size w (w.alloc (.cells #[.pointer none, .slice none 0 0] 50))) := hide ((Below.refl _ _).alloc (Nat.le_refl _) _)
    have HBD := hide (Bld.new (B := w.heap.size) (W0 := w) (Below.refl _ w) (Nat.le_refl _))
    clear hh hE
    go_enter Tryz.func46, Tryz.ntmps46
    go_wp2_with (first
      | (go_at_call 88; refine HC.out.mono ?_; rintro e w1 ⟨rfl, hw⟩; obtain rfl := hw.symm)
      | (go_at_call 89; refine (signs_any _).mono ?_; rintro e w2 ⟨rfl, hm2, hb2⟩; have HM2 := hide hm2; have HB2 := hide hb2; clear hm2 hb2))
    have HM2' : Hid (SMapN w2 (w.heap.size + 1) 16 nameN) := hide (by have := HM2.out; rwa [World.size_alloc] at this)
    go_loopw [0] (fun sv wr => ∃ (S : ByteArray) (acc : List UInt8), sv = .string S ∧ Hid (acc.length + 4 * S.size ≤ 4 * s.size) ∧ Hid (Bld w.heap.size w.heap.size acc w wr) ∧ Hid (SMapN wr (w.heap.size + 1) 16 nameN) ∧ Hid (acc ++ decE S.data.toList = decE s.data.toList)) (fun sv _ => szOfS sv)
    case atStart => exact ⟨s, [], rfl, hide (by simp), hide (HBD.out.kept HB2.out), HM2', hide rfl⟩
    case round =>
      obtain ⟨S, acc, rfl, HL, HB, HM, HG⟩ := hrel
      have hSz : S.size ≤ s.size := by have := HL.out; omega
      have hcut := fun w1 => strCut_any S 38 w1 (by omega)
      simp only [cutV] at hcut
      obtain ⟨A, hA⟩ : ∃ A, A = str (beforeC 38 S.data.toList) := ⟨_, rfl⟩
      obtain ⟨R, hR⟩ : ∃ R, R = str (afterC 38 S.data.toList) := ⟨_, rfl⟩
      rw [← hA, ← hR] at hcut
      have hAl : A.data.toList = beforeC 38 S.data.toList := by rw [hA, str_toList]
      have hRl : R.data.toList = afterC 38 S.data.toList := by rw [hR, str_toList]
      have hAs : A.size ≤ S.size := by rw [← toList_length, hAl, ← toList_length S]; exact (List.takeWhile_sublist _).length_le
      have HL1 : Hid (acc.length + A.size ≤ 140737488355328) := hide (by have := HL.out; omega)
      have tok1 : True := trivial
      cases hc : hasC 38 S.data.toList with
      | false =>
        rw [hc] at hcut
        have HCUT := hide hcut
        have HR : Hid (decE s.data.toList = acc ++ A.data.toList) := hide (by
          rw [← HG.out, decE_no hc, hAl]
          rcases cut_case 38 S.data.toList with ⟨_, h4, _⟩ | ⟨a, r, h3, _⟩
          · rw [h4]
          · exact absurd hc (by unfold hasC; rw [h3]; simp))
        clear hcut hc hA hR hAl hRl hAs hSz
        go_wp2_with (first
          | (go_at_call 90; with_reducible refine (HCUT.out _).mono ?_; rintro e w3 ⟨rfl, hb3⟩; have HB3 := hide (HB.out.kept hb3); have HM3 := hide (HM.out.kept hb3); clear hb3)
          | (go_at_call 45; have _t := tok1; refine (writeStringM_any _ _ acc A w _ HB3.out HL1.out).mono ?_; rintro e w4 ⟨rfl, hb4, hk4⟩; have HB4 := hide hb4; have HM4 := hide (HM3.out.km hk4); clear hb4 hk4 tok1)
          | (go_at_call 81; refine (HB4.out.string).mono ?_; rintro e w5 ⟨rfl, hb5⟩; have HB5 := hide hb5; clear hb5))
        go_ret
        exact ⟨by rw [HR.out]; rfl, HB5.out⟩
      | true =>
        rw [hc] at hcut
        have HCUT := hide hcut
        have hlen := has_cut hc
        rw [← hAl, ← hRl, toList_length, toList_length, toList_length] at hlen
        have hdec := decE_yes hc
        rw [← hAl, ← hRl] at hdec
        have hG := HG.out
        rw [hdec] at hG
        obtain ⟨hx, hnl⟩ := refN_ok R.data.toList
        rw [toList_length] at hnl
        have href := fun w1 (hm : SMapN w1 (w.heap.size + 1) 16 nameN) (he : EnvE w1) => reference_any R (w.heap.size + 1) he.2.2.choose w1 (by omega) hm he.1 he.2.1 he.2.2.choose_spec.1 he.2.2.choose_spec.2
        obtain ⟨⟨x, n⟩, hr⟩ : ∃ o, refN R.data.toList = o := ⟨_, rfl⟩
        rw [hr] at hx hnl href hG
        simp only [refV] at href
        simp only [] at hx hnl hG
        have HREF := hide href
        have HX := hide hx
        have hLL := HL.out
        by_cases hn : 0 < n
        · have t1 : decide ((n : Int) > 0) = true := decide_eq_true (by omega)
          have t2 : decide (0 < n) = true := decide_eq_true hn
          have k1 : (0 : Int) ≤ n := by omega
          have k2 : (n : Int) ≤ R.size := by omega
          rw [if_pos hn] at hG
          have hrl := (runeL_length x).2.1
          have hsz : (R.extract n R.size).size = R.size - n := by rw [ByteArray.size_extract]; omega
          have HL2 : Hid ((acc ++ A.data.toList).length + 4 ≤ 140737488355328) := hide (by rw [List.length_append, toList_length]; omega)
          have HLN : Hid (((acc ++ A.data.toList) ++ runeL x).length + 4 * (R.extract n R.size).size ≤ 4 * s.size) := hide (by rw [List.length_append, List.length_append, toList_length, hsz]; omega)
          have HGN : Hid (((acc ++ A.data.toList) ++ runeL x) ++ decE (R.extract n R.size).data.toList = decE s.data.toList) := hide (by rw [extract_end, ← hG]; simp)
          have HLT : Hid ((R.extract n R.size).size < S.size) := hide (by rw [hsz]; omega)
          clear hcut hc hA hR hAl hRl hAs hlen hdec hG hx hnl href hr hLL hn hrl hsz hSz
          go_wp2_with (first
            | (go_at_call 90; with_reducible refine (HCUT.out _).mono ?_; rintro e w3 ⟨rfl, hb3⟩; have HB3 := hide (HB.out.kept hb3); have HM3 := hide (HM.out.kept hb3); clear hb3)
            | (go_at_call 45; have _t := tok1; refine (writeStringM_any _ _ acc A w _ HB3.out HL1.out).mono ?_; rintro e w4 ⟨rfl, hb4, hk4⟩; have HB4 := hide hb4; have HM4 := hide (HM3.out.km hk4); clear hb4 hk4 tok1)
            | (go_at_call 91; refine (HREF.out _ HM4.out (HE.out.kept HB4.out.2.1)).mono ?_; rintro e w5 ⟨rfl, hb5⟩; have HB5 := hide (HB4.out.kept hb5); have HM5 := hide (HM4.out.kept hb5); clear hb5)
            | (go_at_call 92; refine (writeRuneM_any _ _ _ x HX.out.1 HX.out.2 w _ HB5.out HL2.out).mono ?_; rintro e w6 ⟨⟨m6, rfl⟩, hb6, hk6⟩; have HB6 := hide hb6; have HM6 := hide (HM5.out.km hk6); clear hb6 hk6))
          go_roundw
          case rel => exact ⟨_, _, rfl, HLN, HB6, HM6, HGN⟩
          case measure => exact HLT.out
        · have hn0 : n = 0 := by omega
          have t1 : decide ((n : Int) > 0) = false := decide_eq_false (by omega)
          have t2 : decide (0 < n) = false := decide_eq_false hn
          rw [if_neg hn] at hG
          have tok2 : True := trivial
          have HL2 : Hid ((acc ++ A.data.toList).length + (⟨#[38]⟩ : ByteArray).size ≤ 140737488355328) := hide (by rw [List.length_append, toList_length, show (⟨#[38]⟩ : ByteArray).size = 1 from rfl]; omega)
          have HLN : Hid (((acc ++ A.data.toList) ++ (⟨#[38]⟩ : ByteArray).data.toList).length + 4 * R.size ≤ 4 * s.size) := hide (by rw [List.length_append, List.length_append, toList_length, toList_length, show (⟨#[38]⟩ : ByteArray).size = 1 from rfl]; omega)
          have HGN : Hid (((acc ++ A.data.toList) ++ (⟨#[38]⟩ : ByteArray).data.toList) ++ decE R.data.toList = decE s.data.toList) := hide (by rw [← hG, show (⟨#[38]⟩ : ByteArray).data.toList = [38] from rfl]; simp)
          have HLT : Hid (R.size < S.size) := hide (by omega)
          clear hcut hc hA hR hAl hRl hAs hlen hdec hG hx hnl href hr hLL hn hn0 hSz
          go_wp2_with (first
            | (go_at_call 90; with_reducible refine (HCUT.out _).mono ?_; rintro e w3 ⟨rfl, hb3⟩; have HB3 := hide (HB.out.kept hb3); have HM3 := hide (HM.out.kept hb3); clear hb3)
            | (go_at_call 45; have _t := tok1; refine (writeStringM_any _ _ acc A w _ HB3.out HL1.out).mono ?_; rintro e w4 ⟨rfl, hb4, hk4⟩; have HB4 := hide hb4; have HM4 := hide (HM3.out.km hk4); clear hb4 hk4 tok1)
            | (go_at_call 91; refine (HREF.out _ HM4.out (HE.out.kept HB4.out.2.1)).mono ?_; rintro e w5 ⟨rfl, hb5⟩; have HB5 := hide (HB4.out.kept hb5); have HM5 := hide (HM4.out.kept hb5); clear hb5)
            | (go_at_call 45; have _t := tok2; refine (writeStringM_any _ _ _ ⟨#[38]⟩ w _ HB5.out HL2.out).mono ?_; rintro e w6 ⟨rfl, hb6, hk6⟩; have HB6 := hide hb6; have HM6 := hide (HM5.out.km hk6); clear hb6 hk6 tok2))
          go_roundw
          case rel => exact ⟨_, _, rfl, HLN, HB6, HM6, HGN⟩
          case measure => exact HLT.out
end Go.Proofs.YtgokefodmjhhiaaGreatDoor

/- WALK of htok's readAttr. No statement is proved here. Own work of the verifier. -/
namespace Go.Proofs.YtgokefodmjhhiaaGreatDoor
open Go.RowKit
set_option linter.unusedVariables false
set_option linter.unusedSimpArgs false
set_option maxRecDepth 100000
theorem trimW_left (s : ByteArray) (w : World) :
    Calls Tryz.prog 153 #[.string s, .string ⟨#[32, 9, 10, 12, 13]⟩] w fun e w' => e = .returned (.string (str (s.data.toList.dropWhile whB))) ∧ Below w.heap.size w w' := by
  refine (Any.strings_TrimLeft_laid Tryz.lays161 (by kernel_rfl) s ⟨#[32, 9, 10, 12, 13]⟩ w (by decide) (ascii_of_all (by decide))).mono ?_
  rintro e w1 ⟨rfl, hb⟩
  refine ⟨?_, hb⟩
  have : (fun b => (⟨#[32, 9, 10, 12, 13]⟩ : ByteArray).data.toList.contains b) = whB := funext fun c => by
    show ([32, 9, 10, 12, 13] : List UInt8).contains c = whB c
    unfold whB
    simp only [List.contains_cons, List.contains_nil, Bool.or_false]
  unfold Lib.trimLeftS
  rw [this]
  rfl
theorem trimS_left (s : ByteArray) (w : World) :
    Calls Tryz.prog 153 #[.string s, .string ⟨#[32, 9, 10, 12, 13, 47]⟩] w fun e w' => e = .returned (.string (str (s.data.toList.dropWhile whs))) ∧ Below w.heap.size w w' := by
  refine (Any.strings_TrimLeft_laid Tryz.lays161 (by kernel_rfl) s ⟨#[32, 9, 10, 12, 13, 47]⟩ w (by decide) (ascii_of_all (by decide))).mono ?_
  rintro e w1 ⟨rfl, hb⟩
  refine ⟨?_, hb⟩
  have : (fun b => (⟨#[32, 9, 10, 12, 13, 47]⟩ : ByteArray).data.toList.contains b) = whs := funext fun c => by
    show ([32, 9, 10, 12, 13, 47] : List UInt8).contains c = whs c
    unfold whs whB
    simp only [List.contains_cons, List.contains_nil, Bool.or_false, Bool.or_assoc]
  unfold Lib.trimLeftS
  rw [this]
  rfl
/-- block b is one attribute -/
def ACell (w : World) (b : Nat) (x y : ByteArray) : Prop := w.heap[b]? = some (.cells #[.string x, .string y] 32 (0, 0))
theorem ACell.cell0 {w : World} {b : Nat} {x y : ByteArray} (h : ACell w b x y) : w.cell? ⟨b, 0, none⟩ = some (.string x) := by rw [Lib.cell_of_heap h]; rfl
theorem ACell.cell1 {w : World} {b : Nat} {x y : ByteArray} (h : ACell w b x y) : w.cell? ⟨b, 1, none⟩ = some (.string y) := by rw [Lib.cell_of_heap h]; rfl
theorem ACell.free {w : World} {b : Nat} {x y : ByteArray} (h : ACell w b x y) (i : Nat) : w.frozen? ⟨b, i, none⟩ = false := Lib.frozen_of_heap h i
theorem ACell.kept {w w' : World} {b : Nat} {x y : ByteArray} (h : ACell w b x y) (hb : Below w.heap.size w w') : ACell w' b x y := (hb.block b (lt_of_block h)).trans h
theorem ACell.put0 {w : World} {b : Nat} {x y : ByteArray} (h : ACell w b x y) (u : ByteArray) : ACell (w.setCell ⟨b, 0, none⟩ (.string u)) b u y := heap_put (j := 0) _ h
theorem ACell.put1 {w : World} {b : Nat} {x y : ByteArray} (h : ACell w b x y) (u : ByteArray) : ACell (w.setCell ⟨b, 1, none⟩ (.string u)) b x u := heap_put (j := 1) _ h
theorem ACell.far {w : World} {b g j : Nat} {x y : ByteArray} (h : ACell w b x y) (hne : b ≠ g) (u : Value) : ACell (w.setCell ⟨g, j, none⟩ u) b x y := (Below.heap_setCell _ _ _ b (fun e => hne (by rw [e]))).trans h
theorem acell_new (w : World) : ACell (w.alloc (.cells #[.string ⟨#[]⟩, .string ⟨#[]⟩] 32)) w.heap.size ⟨#[]⟩ ⟨#[]⟩ := by
  show (w.heap.push _)[w.heap.size]? = _
  exact Array.getElem?_push_size
theorem acell_of (w : World) (x y : ByteArray) : ACell (w.alloc (.cells #[.string x, .string y] 32)) w.heap.size x y := by
  show (w.heap.push _)[w.heap.size]? = _
  exact Array.getElem?_push_size
theorem ACell.alloc {w : World} {b : Nat} {x y : ByteArray} (h : ACell w b x y) (o : Obj) : ACell (w.alloc o) b x y := h.kept ((Below.refl _ _).alloc (Nat.le_refl _) o)
theorem attrEnd_has (c : UInt8) : (⟨#[32, 9, 10, 12, 13, 47, 62, 61]⟩ : ByteArray).data.toList.contains c = attrEndB c := by
  show ([32, 9, 10, 12, 13, 47, 62, 61] : List UInt8).contains c = attrEndB c
  unfold attrEndB nameEndB whB
  simp only [List.contains_cons, List.contains_nil, Bool.or_false, Bool.or_assoc]
theorem nameEnd_has (c : UInt8) : (⟨#[32, 9, 10, 12, 13, 47, 62]⟩ : ByteArray).data.toList.contains c = nameEndB c := by
  show ([32, 9, 10, 12, 13, 47, 62] : List UInt8).contains c = nameEndB c
  unfold nameEndB whB
  simp only [List.contains_cons, List.contains_nil, Bool.or_false, Bool.or_assoc]
/-- an attribute and what stands behind it, as values -/
def attrV (x : AtL × List UInt8) : Value := .tuple #[.agg #[.string (str x.1.1), .string (str x.1.2)], .string (str x.2)]
theorem attrL_no {dec : List UInt8 → List UInt8} {c : UInt8} {r : List UInt8} (h : ((upL attrEndB r).2.dropWhile whB).head? ≠ some 61) : attrL dec (c :: r) = ((lowL (c :: (upL attrEndB r).1), []), (upL attrEndB r).2) := by
  unfold attrL
  simp only
  split
  · rename_i b e
    rw [e] at h
    exact absurd rfl h
  · rfl
theorem attrL_yes {dec : List UInt8 → List UInt8} {c : UInt8} {r b : List UInt8} (h : (upL attrEndB r).2.dropWhile whB = 61 :: b) : attrL dec (c :: r) = ((lowL (c :: (upL attrEndB r).1), dec (valueL (b.dropWhile whB)).1), (valueL (b.dropWhile whB)).2) := by
  unfold attrL
  simp only
  rw [h]
  rfl
theorem valueL_len2 (l : List UInt8) : (valueL l).1.length ≤ l.length := by
  unfold valueL
  cases l with
  | nil => exact Nat.le_refl _
  | cons c r =>
    simp only
    split
    · exact Nat.le_trans (List.takeWhile_sublist _).length_le (Nat.le_succ _)
    · split
      · exact Nat.le_trans (List.takeWhile_sublist _).length_le (Nat.le_succ _)
      · exact (List.takeWhile_sublist _).length_le
set_option maxHeartbeats 4000000 in
theorem readAttr_any (s : ByteArray) (w : World) (hs : s.size ≤ 16777216) (h0 : 0 < s.size) (hE : EnvE w) :
    Calls Tryz.prog 155 #[.string s] w fun e w' => e = .returned (attrV (attrL decE s.data.toList)) ∧ Below w.heap.size w w' := by
  have hlen := toList_length s
  obtain ⟨c, r, hl⟩ : ∃ c r, s.data.toList = c :: r := by
    cases h : s.data.toList with
    | nil => rw [h] at hlen; simp at hlen; omega
    | cons c r => exact ⟨c, r, rfl⟩
  have hU := fun w2 => upTo1_any s ⟨#[32, 9, 10, 12, 13, 47, 62, 61]⟩ attrEndB w2 attrEnd_has hs (by omega) (by decide) (by decide) (by decide)
  rw [hl] at hU
  have hu2 := upL_len attrEndB r
  rw [hl, List.length_cons] at hlen
  have hup : up1L attrEndB (c :: r) = (c :: (upL attrEndB r).1, (upL attrEndB r).2) := rfl
  rw [hup] at hU
  obtain ⟨N, hN⟩ : ∃ N, N = c :: (upL attrEndB r).1 := ⟨_, rfl⟩
  obtain ⟨R, hR⟩ : ∃ R, R = (upL attrEndB r).2 := ⟨_, rfl⟩
  have hNl : N.length ≤ 16777216 := by rw [hN, List.length_cons]; omega
  have hRl : R.length ≤ 16777216 := by rw [hR]; omega
  rw [← hN, ← hR] at hU
  have hLOW := fun w2 => lower_any (str N) w2 (by rw [str_size]; omega)
  have hTW := fun w2 => trimW_left (str R) w2
  rw [str_toList] at hLOW hTW
  have HU := hide hU
  have HLOW := hide hLOW
  have HTW := hide hTW
  clear hU hLOW hTW
  rcases quote_cut 61 (R.dropWhile whB) with ⟨hp, b, hb, htr⟩ | ⟨hp, hno⟩
  · obtain ⟨T, hT⟩ : ∃ T : ByteArray, T = str b := ⟨_, rfl⟩
    have HT : Hid ((⟨(Lib.trimPrefix (str (R.dropWhile whB)).data.toList (⟨#[61]⟩ : ByteArray).data.toList).toArray⟩ : ByteArray) = T) := hide (by
      rw [hT, str_toList]
      exact congrArg str htr)
    have HP : Hid (Lib.hasPrefix (str (R.dropWhile whB)).data.toList (⟨#[61]⟩ : ByteArray).data.toList = true) := hide (by rw [str_toList]; exact hp)
    have hbl : b.length ≤ 16777216 := by
      have h1 := drop_len whB R
      rw [hb, List.length_cons] at h1
      omega
    have hTl : T.data.toList = b := by rw [hT, str_toList]
    have HTT := hide (fun w2 => trimW_left T w2)
    rw [hTl] at HTT
    have hvl : (b.dropWhile whB).length ≤ 16777216 := Nat.le_trans (drop_len whB b) hbl
    obtain ⟨V, hV⟩ : ∃ V, V = b.dropWhile whB := ⟨_, rfl⟩
    rw [← hV] at HTT hvl
    have hRV := fun w2 => readValue_any (str V) w2 (by rw [str_size]; exact hvl)
    rw [str_toList] at hRV
    have hX := valueL_len2 V
    obtain ⟨X, hXe⟩ : ∃ X, X = (valueL V).1 := ⟨_, rfl⟩
    obtain ⟨Y, hYe⟩ : ∃ Y, Y = (valueL V).2 := ⟨_, rfl⟩
    have hRV2 : ∀ w2, Calls Tryz.prog 179 #[.string (str V)] w2 fun e w' => e = .returned (upV (X, Y)) ∧ Below w2.heap.size w2 w' := by
      rw [hXe, hYe]
      exact hRV
    have HRV := hide hRV2
    have HDEC := hide (fun w2 h => entDecode_any (str X) w2 (by rw [str_size, hXe]; omega) h)
    rw [str_toList] at HDEC
    have HV : Hid (attrL decE s.data.toList = ((lowL N, decE X), Y)) := hide (by rw [hl, attrL_yes (by rw [← hR]; exact hb), ← hN, ← hV, ← hXe, ← hYe])
    have HE := hide hE
    clear hE hb htr hT hbl hTl hvl hV hRV hX hXe hYe hRV2
    clear hp hN hR hl hlen hu2 hup
    go_enter Tryz.func155, Tryz.ntmps155
    go_wp2_with fail
    refine (HU.out _).mono ?_
    rintro e w1 ⟨rfl, hb1⟩
    have b1 := acell_new w
    have HA1 := hide (b1.kept hb1)
    have HB1 := hide (((Below.refl w.heap.size w).alloc (Nat.le_refl _) (.cells #[.string ⟨#[]⟩, .string ⟨#[]⟩] 32)).trans (hb1.mono (by rw [World.size_alloc]; exact Nat.le_succ _)))
    clear hb1 b1
    unfold upV
    go_wp2_with fail
    refine (HLOW.out _).mono ?_
    rintro e w2 ⟨rfl, hb2⟩
    have HA2 := hide (HA1.out.kept hb2)
    have HB2 := hide (HB1.out.trans (hb2.mono HB1.out.size))
    have hlt2 : w.heap.size < w2.heap.size := lt_of_block HA2.out
    clear hb2
    go_wp2_with fail
    refine (HTW.out _).mono ?_
    rintro e w3 ⟨rfl, hb3⟩
    have A3 := (HA2.out.alloc _).kept hb3
    have C3 := (acell_of w2 (str (lowL N)) ⟨#[]⟩).kept hb3
    have HB3 := hide ((HB2.out.alloc HB2.out.size _).trans (hb3.mono (HB2.out.alloc HB2.out.size _).size))
    clear hb3
    have HA3 := hide A3
    have HC3 := hide C3
    clear A3 C3
    go_wp2_with fail
    refine (Tryz.strings_CutPrefix _ _ _).mono ?_
    rintro e w4 ⟨rfl, hw⟩
    subst hw
    rw [HP.out, HT.out]
    go_wp2_with fail
    refine (HTT.out _).mono ?_
    rintro e w5 ⟨rfl, hb5⟩
    have HA5 := hide (HA3.out.kept hb5)
    have HC5 := hide (HC3.out.kept hb5)
    have HB5 := hide (HB3.out.trans (hb5.mono HB3.out.size))
    clear hb5
    go_wp2_with fail
    refine (HRV.out _).mono ?_
    rintro e w6 ⟨rfl, hb6⟩
    have HA6 := hide (HA5.out.kept hb6)
    have HC6 := hide (HC5.out.kept hb6)
    have HB6 := hide (HB5.out.trans (hb6.mono HB5.out.size))
    clear hb6
    unfold upV
    go_wp2_with fail
    refine (HDEC.out _ (HE.out.kept HB6.out)).mono ?_
    rintro e w7 ⟨rfl, hb7⟩
    have A7 := HA6.out.kept hb7
    have C7 := HC6.out.kept hb7
    have HB7 := hide (HB6.out.trans (hb7.mono HB6.out.size))
    clear hb7
    have g1 := C7.free 1
    have g1' := C7.cell1
    have C8 := C7.put1 (str (decE X))
    have A8 := A7.far (j := 1) (Nat.ne_of_lt hlt2) (.string (str (decE X)))
    have k0 := C8.cell0
    have k1 := C8.cell1
    have f0 := A8.free 0
    have f0' := A8.cell0
    have A9 := A8.put0 (str (lowL N))
    have f1 := A9.free 1
    have f1' := A9.cell1
    have A10 := A9.put1 (str (decE X))
    have hfa := A10.cell0
    have hfb := A10.cell1
    have HBF := hide (((HB7.out.setCell (p := ⟨w2.heap.size, 1, none⟩) (Nat.le_of_lt hlt2) (.string (str (decE X)))).setCell (p := ⟨w.heap.size, 0, none⟩) (Nat.le_refl _) (.string (str (lowL N)))).setCell (p := ⟨w.heap.size, 1, none⟩) (Nat.le_refl _) (.string (str (decE X))))
    clear A7 C7 C8 A8 A9 A10
    go_wp2_with fail
    refine bodyPost_ret (v := .tuple #[.agg #[.string (str (lowL N)), .string (str (decE X))], .string (str Y)]) (by simp [results, Tryz.f155, go_sem, hfa, hfb]) rfl ?_
    exact ⟨by rw [HV.out]; rfl, HBF.out⟩
  · have HV : Hid (attrL decE s.data.toList = ((lowL N, []), R)) := hide (by rw [hl, attrL_no (by rw [← hR]; exact hno), ← hN, ← hR])
    have HP : Hid (Lib.hasPrefix (str (R.dropWhile whB)).data.toList (⟨#[61]⟩ : ByteArray).data.toList = false) := hide (by rw [str_toList]; exact hp)
    clear hp hno hN hR hl hlen hu2 hup
    go_enter Tryz.func155, Tryz.ntmps155
    go_wp2_with fail
    refine (HU.out _).mono ?_
    rintro e w1 ⟨rfl, hb1⟩
    have b1 := acell_new w
    have HA1 := hide (b1.kept hb1)
    have HB1 := hide (((Below.refl w.heap.size w).alloc (Nat.le_refl _) (.cells #[.string ⟨#[]⟩, .string ⟨#[]⟩] 32)).trans (hb1.mono (by rw [World.size_alloc]; exact Nat.le_succ _)))
    clear hb1 b1
    unfold upV
    go_wp2_with fail
    refine (HLOW.out _).mono ?_
    rintro e w2 ⟨rfl, hb2⟩
    have HA2 := hide (HA1.out.kept hb2)
    have HB2 := hide (HB1.out.trans (hb2.mono HB1.out.size))
    have hlt2 : w.heap.size < w2.heap.size := lt_of_block HA2.out
    clear hb2
    go_wp2_with fail
    refine (HTW.out _).mono ?_
    rintro e w3 ⟨rfl, hb3⟩
    have A3 := (HA2.out.alloc _).kept hb3
    have C3 := (acell_of w2 (str (lowL N)) ⟨#[]⟩).kept hb3
    have HB3 := hide ((HB2.out.alloc HB2.out.size _).trans (hb3.mono (HB2.out.alloc HB2.out.size _).size))
    clear hb3
    have f0 := A3.free 0
    have f0' := A3.cell0
    have k0 := C3.cell0
    have k1 := C3.cell1
    have A4 := A3.put0 (str (lowL N))
    have f1 := A4.free 1
    have f1' := A4.cell1
    have A5 := A4.put1 ⟨#[]⟩
    have hfa := A5.cell0
    have hfb := A5.cell1
    have HBF := hide ((HB3.out.setCell (p := ⟨w.heap.size, 0, none⟩) (Nat.le_refl _) (.string (str (lowL N)))).setCell (p := ⟨w.heap.size, 1, none⟩) (Nat.le_refl _) (.string ⟨#[]⟩))
    clear A3 C3 A4 A5
    go_wp2_with fail
    refine (Tryz.strings_CutPrefix _ _ _).mono ?_
    rintro e w4 ⟨rfl, hw⟩
    subst hw
    rw [HP.out]
    go_wp2_with fail
    refine bodyPost_ret (v := .tuple #[.agg #[.string (str (lowL N)), .string ⟨#[]⟩], .string (str R)]) (by simp [results, Tryz.f155, go_sem, hfa, hfb]) rfl ?_
    exact ⟨by rw [HV.out]; rfl, HBF.out⟩
end Go.Proofs.YtgokefodmjhhiaaGreatDoor

/- WALK of htok's readTag. No statement is proved here. Own work of the verifier. -/
namespace Go.Proofs.YtgokefodmjhhiaaGreatDoor
open Go.RowKit
set_option linter.unusedVariables false
set_option linter.unusedSimpArgs false
set_option maxRecDepth 100000
/-- a tag that is read: its name, its attributes as a value, what stands behind it, and whether it is ended -/
def tagV (t : Option (List UInt8 × List AtL × List UInt8)) (v : Value) : Value := match t with
  | none => .tuple #[.string ⟨#[]⟩, v, .string ⟨#[]⟩, .bool false]
  | some x => .tuple #[.string (str x.1), v, .string (str x.2.2), .bool true]
def tagAts (t : Option (List UInt8 × List AtL × List UInt8)) : List AtL := match t with
  | none => []
  | some x => x.2.1
theorem tagL_some {dec : List UInt8 → List UInt8} {l : List UInt8} {A : List AtL} {b : List UInt8} (h : attrsLL dec [] (upL nameEndB l).2 = some (A, b)) : tagL dec l = some (lowL (upL nameEndB l).1, A, b) := by
  unfold tagL; rw [h]
theorem tagL_none {dec : List UInt8 → List UInt8} {l : List UInt8} (h : attrsLL dec [] (upL nameEndB l).2 = none) : tagL dec l = none := by
  unfold tagL; rw [h]
theorem counts_len {A : List AtL} {n : List UInt8} (h : countsB A n = true) : A.length < 30 := by
  unfold countsB at h
  rw [Bool.and_eq_true] at h
  exact of_decide_eq_true h.1
def szStr : Value → Nat
  | .string t => t.size
  | _ => 0
theorem own_ne {B : Nat} {v : Value} {l : List AtL} {W0 w : World} (h : ABuf B v l W0 w) : v.ownBlock ≠ some w.heap.size := fun e => absurd (h.1.lt _ e).2 (Nat.lt_irrefl _)
theorem ABuf.set {B : Nat} {v : Value} {l : List AtL} {W0 w : World} {b : Nat} (h : ABuf B v l W0 w) (hB : B ≤ b) (hne : v.ownBlock ≠ some b) (j : Nat) (x : Value) : ABuf B v l W0 (w.setCell ⟨b, j, none⟩ x) :=
  ⟨h.1.kept (row := some b) ⟨rfl, rfl, rfl, by simp [World.setCell], fun k _ hk => Below.heap_setCell _ _ _ k (fun e => hk (by rw [e]))⟩ (.inr hne), h.2.1.setCell (p := ⟨b, j, none⟩) hB _, by simpa [World.setCell] using h.2.2⟩
set_option maxHeartbeats 8000000 in
theorem readTag_any (s : ByteArray) (w : World) (hs : s.size ≤ 16777216) (hE : EnvE w) :
    Calls Tryz.prog 133 #[.string s] w fun e w' => ∃ v, e = .returned (tagV (tagL decE s.data.toList) v) ∧ w'.ownsRow w.heap.size 32 2 v (tagAts (tagL decE s.data.toList)).length (atVals (tagAts (tagL decE s.data.toList))) ∧ Below w.heap.size w w' := by
  have hlen := toList_length s
  have hU := fun w2 => upTo0_any s ⟨#[32, 9, 10, 12, 13, 47, 62]⟩ nameEndB w2 nameEnd_has hs (by decide) (by decide) (by decide)
  have hu2 := upL_len nameEndB s.data.toList
  rw [hlen] at hu2
  obtain ⟨N, hN⟩ : ∃ N, N = (upL nameEndB s.data.toList).1 := ⟨_, rfl⟩
  obtain ⟨R, hR⟩ : ∃ R, R = (upL nameEndB s.data.toList).2 := ⟨_, rfl⟩
  have hup : upL nameEndB s.data.toList = (N, R) := by rw [hN, hR]
  rw [hup] at hU
  have hNl : N.length ≤ 16777216 := by rw [hN]; omega
  have hRl : R.length ≤ 16777216 := by rw [hR]; omega
  have hLOW := fun w2 => lower_any (str N) w2 (by rw [str_size]; omega)
  rw [str_toList] at hLOW
  have HSOME : Hid (∀ A b, attrsLL decE [] R = some (A, b) → tagL decE s.data.toList = some (lowL N, A, b)) := hide (fun A b h => by
    rw [hR] at h
    rw [tagL_some h, ← hN])
  have HNONE : Hid (attrsLL decE [] R = none → tagL decE s.data.toList = none) := hide (fun h => by
    rw [hR] at h
    exact tagL_none h)
  have HU := hide hU
  have HLOW := hide hLOW
  have HE := hide hE
  clear hE hU hLOW hN hR hup hu2 hlen
  go_enter Tryz.func133, Tryz.ntmps133
  go_wp2_with fail
  refine (HU.out _).mono ?_
  rintro e w1 ⟨rfl, hb1⟩
  have HB1 := hide hb1
  clear hb1
  unfold upV
  go_wp2_with fail
  go_loopw [0, 7] (fun sv v wr => ∃ (S : ByteArray) (A : List AtL), sv = .string S ∧ S.size ≤ 16777216 ∧ A.length ≤ 30 ∧ Hid (ABuf w.heap.size v A w wr) ∧ Hid (attrsLL decE A S.data.toList = attrsLL decE [] R)) (fun sv _ _ => szStr sv)
  case atStart => exact ⟨_, [], rfl, by rw [str_size]; exact hRl, by simp, hide (ABuf.nil HB1.out HB1.out.size), hide (by rw [str_toList])⟩
  case round =>
    obtain ⟨S, A, rfl, hS, hA, HB, HG⟩ := hrel
    have hSl := toList_length S
    obtain ⟨D, hD⟩ : ∃ D, D = S.data.toList.dropWhile whs := ⟨_, rfl⟩
    have hDl : D.length ≤ S.size := by rw [hD, ← hSl]; exact drop_len whs _
    have hTR := fun w2 => trimS_left S w2
    rw [← hD] at hTR
    have HTR := hide hTR
    clear hTR
    rcases quote_cut 62 D with ⟨hp, b, hb, htr⟩ | ⟨hp, hno⟩
    · obtain ⟨T, hT⟩ : ∃ T : ByteArray, T = str b := ⟨_, rfl⟩
      have HT : Hid ((⟨(Lib.trimPrefix (str D).data.toList (⟨#[62]⟩ : ByteArray).data.toList).toArray⟩ : ByteArray) = T) := hide (by
        rw [hT, str_toList]
        exact congrArg str htr)
      have HP : Hid (Lib.hasPrefix (str D).data.toList (⟨#[62]⟩ : ByteArray).data.toList = true) := hide (by rw [str_toList]; exact hp)
      have HV : Hid (tagL decE s.data.toList = some (lowL N, A, b)) := hide (HSOME.out A b (by rw [← HG.out]; exact attrsLL_end (by rw [← hD]; exact hb)))
      have HTE := hide hT
      clear hT hp hb htr hD hDl hSl
      go_wp2_with fail
      refine (HTR.out _).mono ?_
      rintro e w2 ⟨rfl, hb2⟩
      have HB2 := hide (HB.out.kept hb2)
      clear hb2
      go_wp2_with fail
      refine (Tryz.strings_CutPrefix _ _ _).mono ?_
      rintro e w3 ⟨rfl, hw⟩
      subst hw
      rw [HP.out, HT.out]
      go_wp2_with fail
      refine (HLOW.out _).mono ?_
      rintro e w4 ⟨rfl, hb4⟩
      have HB4 := hide (HB2.out.kept hb4)
      clear hb4
      go_wp2_with fail
      refine bodyPost_ret (v := .tuple #[.string (str (lowL N)), u7, .string T, .bool true]) (by simp [results, Tryz.f133, go_sem]) rfl ?_
      exact ⟨_, by rw [HV.out, HTE.out]; rfl, by rw [HV.out]; exact HB4.out.1, HB4.out.below⟩
    · have HP : Hid (Lib.hasPrefix (str D).data.toList (⟨#[62]⟩ : ByteArray).data.toList = false) := hide (by rw [str_toList]; exact hp)
      obtain ⟨DS, hDS⟩ : ∃ DS : ByteArray, DS = str D := ⟨_, rfl⟩
      rw [← hDS] at HTR HP
      obtain ⟨X, hX⟩ : ∃ X : ByteArray, (⟨(Lib.trimPrefix DS.data.toList (⟨#[62]⟩ : ByteArray).data.toList).toArray⟩ : ByteArray) = X := ⟨_, rfl⟩
      have HX := hide hX
      clear hX
      cases D with
      | nil =>
        have HV : Hid (tagL decE s.data.toList = none) := hide (HNONE.out (by rw [← HG.out]; exact attrsLL_nil hD.symm))
        have t0 : DS.toList.isEmpty = true := by rw [hDS, str_list]; rfl
        have t1 : DS.toList = [] := by rw [hDS, str_list]
        clear hDS hp hno hD hDl hSl
        go_wp2_with fail
        refine (HTR.out _).mono ?_
        rintro e w2 ⟨rfl, hb2⟩
        have HB2 := hide (HB.out.kept hb2)
        clear hb2
        go_wp2_with fail
        refine (Tryz.strings_CutPrefix _ _ _).mono ?_
        rintro e w3 ⟨rfl, hw⟩
        subst hw
        rw [HP.out, HX.out]
        go_wp2_with fail
        refine bodyPost_ret (v := .tuple #[.string ⟨#[]⟩, .slice none 0 0, .string ⟨#[]⟩, .bool false]) (by simp [results, Tryz.f133, go_sem]) rfl ?_
        exact ⟨_, by rw [HV.out]; rfl, by rw [HV.out]; exact World.ownsRow_nil _ _ _ 2, HB2.out.below⟩
      | cons c r =>
        have hc62 : c ≠ 62 := by simpa using hno
        have t0 : DS.toList.isEmpty = false := by rw [hDS, str_list]; rfl
        have hDz : DS.size = r.length + 1 := by rw [hDS, str_size]; rfl
        have hRA := fun w2 h => readAttr_any DS w2 (by rw [hDz]; simp at hDl; omega) (by omega) h
        have hstep := attrsLL_go (dec := decE) (A := A) hD.symm hc62
        have hxl := attrL_len decE c r
        rw [show DS.data.toList = c :: r from by rw [hDS, str_toList]] at hRA
        obtain ⟨⟨⟨n, v⟩, q⟩, hx⟩ : ∃ x : AtL × List UInt8, attrL decE (c :: r) = x := ⟨_, rfl⟩
        rw [hx] at hRA hstep hxl
        simp only [List.length_cons] at hDl
        have hql : q.length < S.size := by simp only at hxl; omega
        have HRA := hide hRA
        have HC := hide (fun vv w2 h => counts_any w.heap.size vv A (str n) w2 h (by omega))
        rw [str_toList] at HC
        obtain ⟨NS, hNS⟩ : ∃ NS, NS = str n := ⟨_, rfl⟩
        obtain ⟨VS, hVS⟩ : ∃ VS, VS = str v := ⟨_, rfl⟩
        have HNS := hide hNS
        have HVS := hide hVS
        cases hcn : countsB A n with
        | true =>
          have hA30 := counts_len hcn
          rw [hcn] at HC
          simp only [hcn, if_true] at hstep
          have HG2 : Hid (attrsLL decE (A ++ [(n, v)]) (str q).data.toList = attrsLL decE [] R) := hide (by rw [str_toList, ← hstep]; exact HG.out)
          unfold attrV at HRA
          simp only [← hNS, ← hVS] at HRA HC
          clear hNS hVS hcn hx hxl hstep hDS hp hno hD hDl hSl hc62 hDz hRA
          go_wp2_with fail
          refine (HTR.out _).mono ?_
          rintro e w2 ⟨rfl, hb2⟩
          have B2 := HB.out.kept hb2
          have hne := own_ne B2
          have HB2 := hide B2
          clear hb2 B2
          go_wp2_with fail
          refine (Tryz.strings_CutPrefix _ _ _).mono ?_
          rintro e w3 ⟨rfl, hw⟩
          subst hw
          rw [HP.out, HX.out]
          go_wp2_with fail
          refine (HRA.out _ (HE.out.kept (HB2.out.alloc _).below)).mono ?_
          rintro e w4 ⟨rfl, hb4⟩
          have HB4 := hide ((HB2.out.alloc _).kept hb4)
          have A4 := (acell_new w3).kept hb4
          have f0 := A4.free 0
          have f0' := A4.cell0
          have A5 := A4.put0 NS
          have f1 := A5.free 1
          have f1' := A5.cell1
          have A6 := A5.put1 VS
          have f2 := A6.free 0
          have c0 := A6.cell0
          have c1 := A6.cell1
          have HA6 := hide A6
          have HB6 := hide ((HB4.out.set HB2.out.2.2 hne 0 (.string NS)).set HB2.out.2.2 hne 1 (.string VS))
          clear hb4 A4 A5 A6
          go_wp2_with fail
          refine (HC.out _ _ HB6.out.1).mono ?_
          rintro e w7 ⟨rfl, hb7⟩
          have HB7 := hide (HB6.out.kept hb7)
          have A7 := HA6.out.kept hb7
          have d0 := A7.cell0
          have d1 := A7.cell1
          clear hb7 A7
          go_wp2_with (at_builtin; go_must (refine wpList_ats rfl _ _ rfl w.heap.size _ A rfl w (n, v) (HB7.out.alloc _) ⟨w7.heap.size, 0, none⟩ rfl (by rw [Addr.add_lit, World.cell?_alloc_at _ _ _ _ rfl]; show some (Value.string NS) = some (Value.string (str n)); rw [HNS.out]) (by rw [Addr.add_lit, World.cell?_alloc_at _ _ _ _ rfl]; show some (Value.string VS) = some (Value.string (str v)); rw [HVS.out]) (by omega) ?_; intro v8 w8 hb8; have HB8 := hide hb8; clear hb8))
          go_roundw
          case rel => exact ⟨str q, A ++ [(n, v)], rfl, by rw [str_size]; omega, by rw [List.length_append]; exact hA30, HB8, HG2⟩
          case measure => show (str q).size < S.size; rw [str_size]; exact hql
        | false =>
          rw [hcn] at HC
          simp only [hcn, Bool.false_eq_true, if_false] at hstep
          have HG2 : Hid (attrsLL decE A (str q).data.toList = attrsLL decE [] R) := hide (by rw [str_toList, ← hstep]; exact HG.out)
          unfold attrV at HRA
          simp only [← hNS, ← hVS] at HRA HC
          clear hNS hVS hcn hx hxl hstep hDS hp hno hD hDl hSl hc62 hDz hRA
          go_wp2_with fail
          refine (HTR.out _).mono ?_
          rintro e w2 ⟨rfl, hb2⟩
          have B2 := HB.out.kept hb2
          have hne := own_ne B2
          have HB2 := hide B2
          clear hb2 B2
          go_wp2_with fail
          refine (Tryz.strings_CutPrefix _ _ _).mono ?_
          rintro e w3 ⟨rfl, hw⟩
          subst hw
          rw [HP.out, HX.out]
          go_wp2_with fail
          refine (HRA.out _ (HE.out.kept (HB2.out.alloc _).below)).mono ?_
          rintro e w4 ⟨rfl, hb4⟩
          have HB4 := hide ((HB2.out.alloc _).kept hb4)
          have A4 := (acell_new w3).kept hb4
          have f0 := A4.free 0
          have f0' := A4.cell0
          have A5 := A4.put0 NS
          have f1 := A5.free 1
          have f1' := A5.cell1
          have A6 := A5.put1 VS
          have f2 := A6.free 0
          have c0 := A6.cell0
          have c1 := A6.cell1
          have HA6 := hide A6
          have HB6 := hide ((HB4.out.set HB2.out.2.2 hne 0 (.string NS)).set HB2.out.2.2 hne 1 (.string VS))
          clear hb4 A4 A5 A6
          go_wp2_with fail
          refine (HC.out _ _ HB6.out.1).mono ?_
          rintro e w7 ⟨rfl, hb7⟩
          have HB7 := hide (HB6.out.kept hb7)
          have A7 := HA6.out.kept hb7
          have d0 := A7.cell0
          have d1 := A7.cell1
          clear hb7 A7
          go_wp2_with fail
          go_roundw
          case rel => exact ⟨str q, A, rfl, by rw [str_size]; omega, hA, HB7, HG2⟩
          case measure => show (str q).size < S.size; rw [str_size]; exact hql
end Go.Proofs.YtgokefodmjhhiaaGreatDoor

/- WALKS of htok's reader: what it has gathered as text, told and emptied; a token added. No statement is proved here. Own work of the verifier. -/
namespace Go.Proofs.YtgokefodmjhhiaaGreatDoor
open Go.RowKit
set_option linter.unusedVariables false
set_option linter.unusedSimpArgs false
set_option maxRecDepth 100000
theorem freeze_other (w : World) (g n k : Nat) (h : k ≠ g) : (w.freeze ⟨g, 0, none⟩ n).heap[k]? = w.heap[k]? := by
  unfold World.freeze
  split
  · rfl
  · simp [Array.getElem?_modify, Ne.symm h]
theorem freeze_size (w : World) (g n : Nat) : (w.freeze ⟨g, 0, none⟩ n).heap.size = w.heap.size := by
  unfold World.freeze
  split <;> simp
theorem RowsK.freeze {w : World} {g n cap : Nat} {cur : Array Value} (hg : w.heap[g]? = some (.cells cur 5 (0, 0))) : RowsK w (w.freeze ⟨g, 0, none⟩ n) := fun B e sz m x xs h1 _ hx =>
  hx.kept (row := some g) ⟨by unfold World.freeze; split <;> rfl, by unfold World.freeze; split <;> rfl, by unfold World.freeze; split <;> rfl, by rw [freeze_size]; exact Nat.le_refl _, fun k _ hk => freeze_other w g n k (fun e => hk (by rw [e]))⟩ (.inr (ownsRow_other hx (fun cur' hc => by
    rw [hg] at hc
    injection hc with hc
    injection hc with _ hc
    exact h1 hc.symm)))
/-- a reader whose text is told, and not emptied yet -/
def RdrS (B b : Nat) (o : Value) (vs : List TokV) (W0 w : World) : Prop := (∃ a v, RdC w b o a v) ∧ TRow B o vs w ∧ B ≤ b ∧ Below B W0 w ∧ B ≤ w.heap.size
set_option maxHeartbeats 2000000 in
theorem stringR_any (B b : Nat) (o : Value) (vs : List TokV) (x : List UInt8) (W0 w : World) (h : Rdr B b o vs x W0 w) (h0 : x ≠ []) :
    Calls Tryz.prog 81 #[.pointer (some ⟨b, 1, none⟩)] w fun e w' => e = .returned (.string (str x)) ∧ RdrS B b o vs W0 w' ∧ w.heap.size ≤ w'.heap.size ∧ (∀ (k : Nat), (∀ (cur : Array Value) (fr : Nat × Nat), w.heap[k]? ≠ some (Obj.cells cur 5 fr)) → w'.heap[k]? = w.heap[k]?) := by
  obtain ⟨⟨a, v, h1, h2, h3, h4⟩, ht, hB, hW, hz⟩ := h
  have hl0 : x.length ≠ 0 := by simpa using h0
  obtain ⟨g, cap, cur, rfl, hbg, hg, hnc, hcm, hcs, htake⟩ : ∃ g cap cur, v = .slice (some ⟨g, 0, none⟩) x.length cap ∧ B ≤ g ∧ w.heap[g]? = some (.cells cur 5 (0, 0)) ∧ x.length ≤ cap ∧ cap ≤ maxLen ∧ cur.size = cap * 1 ∧ cur.toList.take (x.length * 1) = cellsOf x := by
    rcases h3.2 with ⟨_, hz⟩ | ⟨g, cap, cur, hv, r⟩
    · exact absurd hz hl0
    · exact ⟨g, cap, cur, hv, r⟩
  have hgb : g ≠ b := fun e => h4 (by rw [e]; rfl)
  have c2 : w.cell? ⟨b, 2, none⟩ = some (.slice (some ⟨g, 0, none⟩) x.length cap) := h1.cell2
  have c2d : w.drew.cell? ⟨b, 2, none⟩ = some (.slice (some ⟨g, 0, none⟩) x.length cap) := c2
  have hSD : (Builtin.unsafeSliceData_ #[48] 127 #[.slice (some ⟨g, 0, none⟩) x.length cap]).run Tryz.prog w.drew = .ok (.pointer (some ⟨g, 0, none⟩)) w.drew :=
    Lib.run_unsafeSliceData_row _ _ _ _ _ _ (by omega)
  have hUS : (Builtin.unsafeString_ #[127, 3] 9 #[.pointer (some ⟨g, 0, none⟩), .int .i64 x.length]).run Tryz.prog w.drew = .ok (.string (str x)) (w.drew.freeze ⟨g, 0, none⟩ x.length) := by
    refine Lib.run_unsafeString_row w.drew 127 3 9 5 Tryz.underlying127 (by kernel_rfl) g cur.size (by have hg' : w.drew.heap[g]? = some (.cells cur 5 (0, 0)) := hg; simp [World.shape?, hg']) x h0 (by omega) (by unfold maxLen at hcm; omega) ?_
    intro j y hy
    exact h3.cells (g := g) rfl j (.int .u8 y.toNat) (by simp [cellsOf, hy])
  have HKK : Hid (w.heap.size ≤ (w.drew.freeze ⟨g, 0, none⟩ x.length).heap.size ∧ (∀ (k : Nat), (∀ (cur : Array Value) (fr : Nat × Nat), w.heap[k]? ≠ some (Obj.cells cur 5 fr)) → (w.drew.freeze ⟨g, 0, none⟩ x.length).heap[k]? = w.heap[k]?)) := hide (by
    refine ⟨by rw [freeze_size]; exact Nat.le_refl _, fun k hk => ?_⟩
    exact freeze_other w.drew g x.length k (fun e => hk cur (0, 0) (by rw [e]; exact hg)))
  have HS : Hid (RdrS B b o vs W0 (w.drew.freeze ⟨g, 0, none⟩ x.length)) := hide (by
    have hgd : w.drew.heap[g]? = some (.cells cur 5 (0, 0)) := hg
    have htd : TRow B o vs w.drew := ⟨ht.row, ht.each⟩
    refine ⟨⟨a, _, (freeze_other w.drew g x.length b (Ne.symm hgb)).trans h1⟩, htd.rows (RowsK.freeze (cap := cap) hgd), hB, Lib.below_freeze hW.drew (p := ⟨g, 0, none⟩) hbg _, ?_⟩
    rw [freeze_size]
    exact hz)
  clear h1 h2 h3 h4 ht hB hW hz hg hcs htake hnc hcm hbg hgb h0
  go_enter Tryz.func81, Tryz.ntmps81
  go_wp2_with fail
  go_region
  all_goals
    try go_wp2_with fail
    go_ret
    exact ⟨rfl, HS.out, HKK.out⟩
set_option maxHeartbeats 1000000 in
theorem resetR_any (B b : Nat) (o : Value) (vs : List TokV) (W0 w : World) (h : RdrS B b o vs W0 w) :
    Calls Tryz.prog 100 #[.pointer (some ⟨b, 1, none⟩)] w fun e w' => e = .returned (.tuple #[]) ∧ Rdr B b o vs [] W0 w' ∧ w.heap.size ≤ w'.heap.size ∧ ∀ (k : Nat), k ≠ b → w'.heap[k]? = w.heap[k]? := by
  obtain ⟨⟨a, v, h1⟩, ht, hB, hW, hz⟩ := h
  have f1 := h1.free 1
  have c1 := h1.cell1
  have k1 := h1.put1 (.pointer none)
  have f2 := k1.free 2
  have d2 := k1.cell2
  have HR : Hid (Rdr B b o vs [] W0 ((w.setCell ⟨b, 1, none⟩ (.pointer none)).setCell ⟨b, 2, none⟩ (.slice none 0 0))) := hide
    ⟨⟨_, _, k1.put2 _, .inl rfl, World.ownsRow_nil _ B _ 1, by simp [Value.ownBlock]⟩, ht.rows ((RowsK.put h1 1 _).trans (RowsK.put k1 2 _)), hB, (hW.setCell (p := ⟨b, 1, none⟩) hB _).setCell (p := ⟨b, 2, none⟩) hB _, by simpa [World.setCell] using hz⟩
  have HK : Hid (w.heap.size ≤ ((w.setCell ⟨b, 1, none⟩ (.pointer none)).setCell ⟨b, 2, none⟩ (.slice none 0 0)).heap.size ∧ ∀ k, k ≠ b → ((w.setCell ⟨b, 1, none⟩ (.pointer none)).setCell ⟨b, 2, none⟩ (.slice none 0 0)).heap[k]? = w.heap[k]?) := hide
    ⟨by simp [World.setCell], fun k hk => (Below.heap_setCell _ _ _ k (fun e => hk (by rw [e]))).trans (Below.heap_setCell _ _ _ k (fun e => hk (by rw [e])))⟩
  clear h1 ht hB hW hz k1
  go_enter Tryz.func100, Tryz.ntmps100
  go_wp2_with fail
  go_end0
  exact ⟨rfl, HR.out, HK.out⟩
/-- append(l, t) at a step of a region that draws its order -/
theorem step_toks {ops : Array Oper} {o : Oper} {a : Act} {w : World} {K : Act → World → Prop} {Q : Exit → Act → World → Prop} {E : Prop} (hgd : o.guard = none) (s x : Operand)
    (ho : o.op = .call { callee := .builtin .append, args := #[s, x], argTypes := #[24, 24] })
    (B : Nat) (v : Value) (ls : List TokV) (hs : a.eval s = v) (t : TokL) (u : Value) (hb : TRow B v ls w) (hu : w.ownsRow B 32 2 u t.attrs.length (atVals t.attrs)) (hB : B ≤ w.heap.size) (ad : Addr)
    (hx : a.eval x = .slice (some ad) 1 1) (h0 : w.cell? (ad.add 0) = some (.int .i64 (t.kind : Int))) (h1 : w.cell? (ad.add 1) = some (.string (str t.name))) (h2 : w.cell? (ad.add 2) = some u) (h3 : w.cell? (ad.add 3) = some (.string (str t.text)))
    (hlen : ls.length + 1 ≤ 2199023255552)
    (h : ∀ v' w', TRow B v' (ls ++ [(t, u)]) w' → w.grownBy w' v.ownBlock → K (a.put o.dst v') w') :
    if Region.wanted o (yielded ops a.tmps) = true then Oper.wp Tryz.prog o a w K Q else E := by
  have hw : Region.wanted o (yielded ops a.tmps) = true := by simp [Region.wanted, hgd]
  rw [if_pos hw]
  obtain ⟨i0, hi, hz0, hz1, hz2⟩ := info_parts info_tok
  obtain ⟨A, c, rfl⟩ : ∃ A c, u = .slice A t.attrs.length c := by
    rcases hu.2 with ⟨rfl, h0⟩ | ⟨g, cap, cur, rfl, _⟩
    · rw [h0]; exact ⟨_, _, rfl⟩
    · exact ⟨_, _, rfl⟩
  refine wp_append_own _ s x 24 ho B 29 i0 (.agg #[.int .i64 0, .string ByteArray.empty, .slice none 0 0, .string ByteArray.empty]) 4 64 Tryz.underlying24 hi hz0 hz1 hz2 rfl (by decide) v ls.length (tokVals ls) hs hb.row ad 1 1 (tokVals [(t, .slice A t.attrs.length c)]) hx rfl ?_ ?_ (by unfold maxLen; omega) (by omega) hB ?_
  · intro j u hj
    match j, hj with
    | 0, hj => simp [tokVals] at hj; subst hj; exact h0
    | 1, hj => simp [tokVals] at hj; subst hj; exact h1
    | 2, hj => simp [tokVals] at hj; subst hj; exact h2
    | 3, hj => simp [tokVals] at hj; subst hj; exact h3
    | (j + 4), hj => simp [tokVals] at hj
  · intro u hu
    simp [tokVals] at hu
    rcases hu with rfl | rfl | rfl | rfl <;> rfl
  · intro v' w' ho' hg _
    exact h v' w' (hb.push hu ho' hg) hg
end Go.Proofs.YtgokefodmjhhiaaGreatDoor

/- WALKS of htok's reader: endText, add. No statement is proved here. Own work of the verifier. -/
namespace Go.Proofs.YtgokefodmjhhiaaGreatDoor
open Go.RowKit
set_option linter.unusedVariables false
set_option linter.unusedSimpArgs false
set_option maxRecDepth 100000
/-- what is no reader, no row of bytes, and not the row o, is as it was -/
def KeptB (b : Nat) (o : Value) (w w' : World) : Prop := w.heap.size ≤ w'.heap.size ∧ ∀ k, k < w.heap.size → k ≠ b → o.ownBlock ≠ some k → (∀ cur fr, w.heap[k]? ≠ some (Obj.cells cur 5 fr)) → w'.heap[k]? = w.heap[k]?
theorem KeptB.attr {b : Nat} {o : Value} {w w' : World} {B n : Nat} {u : Value} {xs : List Value} (h : KeptB b o w w') (hr : w.ownsRow B 32 2 u n xs) {bo m : Nat} {ys : List Value} (ho : w.ownsRow bo 29 4 o m ys) {a v p : Value} (hb : RdC w b p a v) : w'.ownsRow B 32 2 u n xs := by
  refine ⟨hr.1, ?_⟩
  rcases hr.2 with h2 | ⟨g, cap, cur, h1, hg, hh, h3⟩
  · exact .inl h2
  · have hlt : g < w.heap.size := lt_of_block hh
    refine .inr ⟨g, cap, cur, h1, hg, (h.2 g hlt ?_ ?_ ?_).trans hh, h3⟩
    · intro e
      have hb' : w.heap[b]? = some (.cells #[p, a, v] 52 (0, 0)) := hb
      rw [← e, hh] at hb'
      injection hb' with hb'
      injection hb' with _ hb'
      exact absurd hb' (by decide)
    · exact ownsRow_other ho (fun cur' hc => by
        rw [hh] at hc
        injection hc with hc
        injection hc with _ hc
        exact absurd hc (by decide))
    · intro cur' fr hc
      rw [hh] at hc
      injection hc with hc
      injection hc with _ hc
      exact absurd hc (by decide)
/-- what endText leaves -/
def EndP (B b : Nat) (o : Value) (vs : List TokV) (x : List UInt8) (W0 w w' : World) : Prop :=
  ∃ o' vs', Rdr B b o' vs' [] W0 w' ∧ vs'.map Prod.fst = flushT (vs.map Prod.fst) x ∧ vs'.length ≤ vs.length + 1 ∧ KeptB b o w w'
theorem Rdr.cell {B b : Nat} {o : Value} {vs : List TokV} {x : List UInt8} {W0 w : World} (h : Rdr B b o vs x W0 w) : ∃ a v, RdC w b o a v := by
  obtain ⟨⟨a, v, h1, _⟩, _⟩ := h
  exact ⟨a, v, h1⟩
theorem tok_row (W : World) (c0 c1 c2 c3 : Value) : (W.alloc (.cells #[c0, c1, c2, c3] 29)).cell? ((⟨W.heap.size, 0, none⟩ : Addr).add 0) = some c0 ∧ (W.alloc (.cells #[c0, c1, c2, c3] 29)).cell? ((⟨W.heap.size, 0, none⟩ : Addr).add 1) = some c1 ∧
    (W.alloc (.cells #[c0, c1, c2, c3] 29)).cell? ((⟨W.heap.size, 0, none⟩ : Addr).add 2) = some c2 ∧ (W.alloc (.cells #[c0, c1, c2, c3] 29)).cell? ((⟨W.heap.size, 0, none⟩ : Addr).add 3) = some c3 := by
  refine ⟨?_, ?_, ?_, ?_⟩ <;> exact (World.cell?_alloc_at _ _ _ _ rfl).trans rfl
theorem below_one (w : World) (o : Obj) : Below w.heap.size w (w.alloc o) := (Below.refl _ _).alloc (Nat.le_refl _) _
/-- behind the append of a token and the store of the row -/
theorem stored {B b : Nat} {o a v : Value} {vs : List TokV} {t : TokL} {u : Value} {W0 w1 w2 : World} {ob : Obj} {A : Option Addr} {n c : Nat} (hr : RdC w1 b o a v) (ht : TRow B o vs w1) (hB : B ≤ b) (hW : Below B W0 w1) (hz : B ≤ w1.heap.size)
    (h2 : TRow B (.slice A n c) (vs ++ [(t, u)]) w2) (hg : (w1.alloc ob).grownBy w2 o.ownBlock) : RdC w2 b o a v ∧ RdrS B b (.slice A n c) (vs ++ [(t, u)]) W0 (w2.setCell ⟨b, 0, none⟩ (.slice A n c)) ∧ (∀ k, k < w1.heap.size → k ≠ b → o.ownBlock ≠ some k → (w2.setCell ⟨b, 0, none⟩ (.slice A n c)).heap[k]? = w1.heap[k]?) ∧ w1.heap.size ≤ (w2.setCell ⟨b, 0, none⟩ (.slice A n c)).heap.size := by
  have hra : RdC (w1.alloc ob) b o a v := ((below_one w1 ob).block b hr.lt).trans hr
  have hne : o.ownBlock ≠ some b := ownsRow_other ht.row (fun cur hc => by
    have h' : w1.heap[b]? = some (.cells #[o, a, v] 52 (0, 0)) := hr
    rw [h'] at hc
    injection hc with hc
    injection hc with _ hc
    exact absurd hc (by decide))
  have hr2 : RdC w2 b o a v := (hg.block b hra.lt (fun e => hne e.symm)).trans hra
  have hWa : Below B W0 (w1.alloc ob) := hW.alloc hz _
  have hza : B ≤ (w1.alloc ob).heap.size := by rw [World.size_alloc]; exact Nat.le_succ_of_le hz
  have hW2 : Below B W0 w2 := hWa.grown hg hza (fun k hk => (ht.row.lt k hk).1)
  refine ⟨hr2, ⟨⟨a, v, hr2.put0 _⟩, h2.rows (RowsK.put hr2 0 _), hB, hW2.setCell (p := ⟨b, 0, none⟩) hB _, ?_⟩, fun k hk hkb hko => ?_, ?_⟩
  · have := hg.size
    simp [World.setCell]
    omega
  · rw [Below.heap_setCell _ _ _ k (fun e => hkb (by rw [e])), hg.block k (by rw [World.size_alloc]; exact Nat.lt_succ_of_lt hk) (fun e => hko e.symm)]
    exact (below_one w1 ob).block k hk
  · have := hg.size
    rw [World.size_alloc] at this
    simp [World.setCell]
    omega
set_option maxHeartbeats 4000000 in
theorem endText_any (B b : Nat) (o : Value) (vs : List TokV) (x : List UInt8) (W0 w : World) (h : Rdr B b o vs x W0 w) (hn : vs.length ≤ 1099511627776) :
    Calls Tryz.prog 48 #[.pointer (some ⟨b, 0, none⟩)] w fun e w' => e = .returned (.tuple #[]) ∧ EndP B b o vs x W0 w w' := by
  have HL := hide (lenR_any B b o vs x W0 w h)
  by_cases hx : x = []
  · subst hx
    have HR : Hid (EndP B b o vs [] W0 w w) := hide ⟨o, vs, h, by unfold flushT; rw [if_pos rfl], Nat.le_succ _, Nat.le_refl _, fun k _ _ _ _ => rfl⟩
    clear h
    go_enter Tryz.func48, Tryz.ntmps48
    go_wp2_with fail
    refine HL.out.mono ?_
    rintro e w1 ⟨rfl, rfl⟩
    go_wp2_with fail
    go_end0
    exact ⟨rfl, HR.out⟩
  · obtain ⟨N, hN⟩ : ∃ N, x.length = N := ⟨_, rfl⟩
    have hN0 : 0 < N := by rw [← hN]; exact List.length_pos_iff.2 hx
    rw [hN] at HL
    have g1 : decide ((0 : Int) < (N : Int)) = true := decide_eq_true (by omega)
    have hd : Rdr B b o vs x W0 w.drew := h.kept ((Below.refl _ _).drew)
    have HST := hide (stringR_any B b o vs x W0 w.drew hd hx)
    obtain ⟨a0, v0, hc⟩ := h.cell
    have c0 := hc.cell0
    obtain ⟨X, hX⟩ : ∃ X, str x = X := ⟨_, rfl⟩
    rw [hX] at HST
    have HX := hide hX
    have HXN := hide hx
    have HH := hide h
    have HN := hide hn
    have HN0 := hide hN0
    have HBS := hide (show B ≤ b from h.base)
    clear h hx hN hd hc hX hn hN0
    go_enter Tryz.func48, Tryz.ntmps48
    go_wp2_with fail
    refine HL.out.mono ?_
    rintro e w0 ⟨rfl, rfl⟩
    go_wp2_with fail
    all_goals first | exact absurd HN0.out ‹_› | skip
    go_region_law (first
      | (refine step_toks rfl _ _ rfl B o vs rfl (charsT x) (.slice none 0 0) ⟨(KT.out.alloc _).row, (KT.out.alloc _).each⟩ (World.ownsRow_nil _ B _ 2) ?_ ⟨w1.heap.size, 0, none⟩ rfl (tok_row _ _ _ _ _).1 (tok_row _ _ _ _ _).2.1 (tok_row _ _ _ _ _).2.2.1 ((tok_row _ _ _ _ _).2.2.2.trans (by rw [← HX.out]; rfl)) (by have := HN.out; omega) ?_
         · rw [World.size_alloc]
           exact Nat.le_succ_of_le KZ.out
         intro v2 w2 ht2 hg2
         obtain ⟨A2, n2, c2, rfl⟩ : ∃ A n c, v2 = .slice A n c := ⟨_, _, _, ht2.slice_len.choose_spec.choose_spec⟩
         obtain ⟨r2, s2, k2, z2⟩ := stored KR.out KT.out HBS.out KW.out KZ.out ht2 hg2
         have f2 := r2.free 0
         have d2 := r2.cell0
         have HS2 := hide s2
         have HK2 := hide k2
         have HZ2 := hide z2
         clear r2 s2 k2 z2 ht2 hg2)
      | (go_simp; go_at_call 81; refine HST.out.mono ?_; rintro e w1 ⟨rfl, hs, hz1, hk1⟩; obtain ⟨⟨a1, v1, hr1⟩, ht1, hB1, hW1, hzz⟩ := hs; have d1 := hr1.cell0; have e1 : ∀ ob, (w1.alloc ob).cell? ⟨b, 0, none⟩ = some o := fun ob => RdC.cell0 (((below_one w1 ob).block b hr1.lt).trans hr1); have KR := hide hr1; have KT := hide ht1; have KW := hide hW1; have KZ := hide hzz; have KZ1 := hide hz1; have KK1 := hide hk1; clear hr1 ht1 hB1 hW1 hzz hz1 hk1))
    all_goals
      try go_wp2_with fail
      refine (resetR_any B b _ _ W0 _ HS2.out).mono ?_
      rintro e w3 ⟨rfl, hr3, hz3, hk3⟩
      have HR3 := hide hr3
      have HZ3 := hide hz3
      have HK3 := hide hk3
      clear hr3 hz3 hk3
      try go_wp2_with fail
      go_end0
      refine ⟨rfl, _, _, HR3.out, ?_, ?_, Nat.le_trans KZ1.out (Nat.le_trans HZ2.out HZ3.out), fun k h1 h2 h3 h4 => ?_⟩
      · unfold flushT
        rw [if_neg HXN.out, List.map_append]
        rfl
      · rw [List.length_append]
        exact Nat.le_refl _
      · exact (HK3.out k h2).trans ((HK2.out k (Nat.lt_of_lt_of_le h1 KZ1.out) h2 h3).trans (KK1.out k h4))
theorem storedX {B b : Nat} {o a v : Value} {vs : List TokV} {t : TokL} {u : Value} {x : List UInt8} {W0 w1 w2 : World} {ob : Obj} {A : Option Addr} {n c : Nat} (hr : RdC w1 b o a v) (ht : TRow B o vs w1) (hB : B ≤ b) (hW : Below B W0 w1) (hz : B ≤ w1.heap.size)
    (hv : AdrOK b a ∧ w1.ownsRow B 5 1 v x.length (cellsOf x) ∧ v.ownBlock ≠ some b)
    (h2 : TRow B (.slice A n c) (vs ++ [(t, u)]) w2) (hg : (w1.alloc ob).grownBy w2 o.ownBlock) : Rdr B b (.slice A n c) (vs ++ [(t, u)]) x W0 (w2.setCell ⟨b, 0, none⟩ (.slice A n c)) := by
  obtain ⟨r2, ⟨q1, q2, q3, q4, q5⟩, -, -⟩ := stored hr ht hB hW hz h2 hg
  refine ⟨⟨a, v, r2.put0 _, hv.1, ?_, hv.2.2⟩, q2, q3, q4, q5⟩
  have k1 := hv.2.1.kept (row := none) (World.grownBy_alloc w1 ob none) (by cases hv : v.ownBlock <;> simp)
  have k2 := k1.kept hg (ownsRow_diff (by decide) k1 (ht.alloc ob).row)
  exact k2.kept (row := some b) ⟨rfl, rfl, rfl, by simp [World.setCell], fun k _ hk => Below.heap_setCell _ _ _ k (fun e => hk (by rw [e]))⟩ (.inr hv.2.2)
/-- a token as a value -/
def tokV (t : TokL) (u : Value) : Value := .agg #[.int .i64 (t.kind : Int), .string (str t.name), u, .string (str t.text)]
set_option maxHeartbeats 4000000 in
theorem add_any (B b : Nat) (o : Value) (vs : List TokV) (x : List UInt8) (W0 w : World) (h : Rdr B b o vs x W0 w) (hn : vs.length ≤ 1099511627776) (t : TokL) (u : Value) (hu : w.ownsRow B 32 2 u t.attrs.length (atVals t.attrs)) :
    Calls Tryz.prog 134 #[.pointer (some ⟨b, 0, none⟩), tokV t u] w fun e w' => e = .returned (.tuple #[]) ∧ ∃ o' vs', Rdr B b o' vs' [] W0 w' ∧ vs'.map Prod.fst = flushT (vs.map Prod.fst) x ++ [t] ∧ vs'.length ≤ vs.length + 2 := by
  obtain ⟨A, c, rfl⟩ : ∃ A c, u = .slice A t.attrs.length c := by
    rcases hu.2 with ⟨rfl, h0⟩ | ⟨g, cap, cur, rfl, _⟩
    · rw [h0]; exact ⟨_, _, rfl⟩
    · exact ⟨_, _, rfl⟩
  obtain ⟨bx, hbx⟩ : ∃ bx : Obj, bx = .cells #[.int .i64 (t.kind : Int), .string (str t.name), .slice A t.attrs.length c, .string (str t.text)] 29 := ⟨_, rfl⟩
  have hk := below_one w bx
  have hr := h.kept hk
  have HE := hide (endText_any B b o vs x W0 (w.alloc bx) hr hn)
  obtain ⟨a0, v0, hc0⟩ := hr.cell
  have HU1 : Hid (∀ w', KeptB b o (w.alloc bx) w' → w'.ownsRow B 32 2 (.slice A t.attrs.length c) t.attrs.length (atVals t.attrs)) := hide (fun w' hw => hw.attr (hu.kept (row := none) (World.grownBy_alloc w bx none) (by cases hv : Value.ownBlock (.slice A t.attrs.length c) <;> simp)) hr.toks.row hc0)
  have HBX : Hid (∀ w', KeptB b o (w.alloc bx) w' → w'.heap[w.heap.size]? = some bx) := hide (fun w' hw => by
    have hs : (w.alloc bx).heap[w.heap.size]? = some bx := by show (w.heap.push bx)[w.heap.size]? = some bx; exact Array.getElem?_push_size
    rw [hw.2 w.heap.size (by rw [World.size_alloc]; exact Nat.lt_succ_self _) ?_ ?_ ?_]
    · exact hs
    · intro e
      obtain ⟨a1, v1, h1⟩ := h.cell
      exact absurd h1.lt (by omega)
    · intro e
      exact absurd (h.toks.row.lt _ e).2 (Nat.lt_irrefl _)
    · intro cur fr hh
      rw [hs, hbx] at hh
      injection hh with hh
      injection hh with _ hh
      exact absurd hh (by decide))
  have HBASE := hide h.base
  have HN := hide hn
  clear h hr hc0 hk hu hn
  subst hbx
  unfold tokV
  go_enter Tryz.func134, Tryz.ntmps134
  go_wp2_with fail
  refine HE.out.mono ?_
  rintro e w1 ⟨rfl, o1, vs1, hr1, hm1, hl1, hk1⟩
  have hbx := HBX.out w1 hk1
  have HU := hide (HU1.out w1 hk1)
  obtain ⟨⟨a1, v1, r1, y2, y3, y4⟩, ht1, hB1, hW1, hz1⟩ := hr1
  have d1 := r1.cell0
  have r1d : RdC w1.drew b o1 a1 v1 := r1
  have e1 : ∀ ob, (w1.alloc ob).cell? ⟨b, 0, none⟩ = some o1 := fun ob => RdC.cell0 (((below_one w1 ob).block b r1.lt).trans r1)
  have e2 : ∀ ob, (w1.drew.alloc ob).cell? ⟨b, 0, none⟩ = some o1 := fun ob => RdC.cell0 (((below_one w1.drew ob).block b r1d.lt).trans r1d)
  have t0 : w1.cell? ⟨w.heap.size, 0, none⟩ = some (.int .i64 (t.kind : Int)) := by rw [Lib.cell_of_heap hbx]; rfl
  have t1 : w1.cell? ⟨w.heap.size, 1, none⟩ = some (.string (str t.name)) := by rw [Lib.cell_of_heap hbx]; rfl
  have t2 : w1.cell? ⟨w.heap.size, 2, none⟩ = some (.slice A t.attrs.length c) := by rw [Lib.cell_of_heap hbx]; rfl
  have t3 : w1.cell? ⟨w.heap.size, 3, none⟩ = some (.string (str t.text)) := by rw [Lib.cell_of_heap hbx]; rfl
  have HV := hide (⟨y2, y3, y4⟩ : AdrOK b a1 ∧ w1.drew.ownsRow B 5 1 v1 ([] : List UInt8).length (cellsOf []) ∧ v1.ownBlock ≠ some b)
  have KR := hide r1d
  have KT : Hid (TRow B o1 vs1 w1.drew) := hide ⟨ht1.row, ht1.each⟩
  have KW : Hid (Below B W0 w1.drew) := hide hW1.drew
  have KZ : Hid (B ≤ w1.drew.heap.size) := hide hz1
  have HM := hide hm1
  have HL := hide hl1
  have hud : w1.drew.ownsRow B 32 2 (.slice A t.attrs.length c) t.attrs.length (atVals t.attrs) := HU.out
  have HUA := hide (fun ob => hud.kept (row := none) (World.grownBy_alloc w1.drew ob none) (by cases hv : Value.ownBlock (.slice A t.attrs.length c) <;> simp))
  clear hud r1 r1d y2 y3 y4 ht1 hB1 hW1 hz1 hm1 hl1 hk1 hbx
  go_wp2_with fail
  go_region_law (first
    | (refine step_toks rfl _ _ rfl B o1 vs1 rfl t (.slice A t.attrs.length c) ⟨(KT.out.alloc _).row, (KT.out.alloc _).each⟩ (HUA.out _) ?_ ⟨w1.heap.size, 0, none⟩ rfl (tok_row _ _ _ _ _).1 (tok_row _ _ _ _ _).2.1 (tok_row _ _ _ _ _).2.2.1 (tok_row _ _ _ _ _).2.2.2 (by have := HN.out; have := HL.out; omega) ?_
       · show B ≤ (w1.drew.alloc _).heap.size
         rw [World.size_alloc]
         exact Nat.le_succ_of_le KZ.out
       intro v2 w2 ht2 hg2
       obtain ⟨A2, n2, c2, rfl⟩ : ∃ A n c, v2 = .slice A n c := ⟨_, _, _, ht2.slice_len.choose_spec.choose_spec⟩
       have s2 := storedX KR.out KT.out HBASE.out KW.out KZ.out HV.out ht2 hg2
       have r2 := (stored KR.out KT.out HBASE.out KW.out KZ.out ht2 hg2).1
       have f2 := r2.free 0
       have d2 := r2.cell0
       have HS2 := hide s2
       clear r2 s2 ht2 hg2)
    | fail)
  all_goals
    try go_wp2_with fail
    go_end0
    refine ⟨rfl, _, _, HS2.out, ?_, ?_⟩
    · rw [List.map_append, HM.out]
      rfl
    · rw [List.length_append]
      have := HL.out
      exact Nat.succ_le_succ this
end Go.Proofs.YtgokefodmjhhiaaGreatDoor

/- WALKS of htok's reader: end, comment at one sign. No statement is proved here. Own work of the verifier. -/
namespace Go.Proofs.YtgokefodmjhhiaaGreatDoor
open Go.RowKit
set_option linter.unusedVariables false
set_option linter.unusedSimpArgs false
set_option maxRecDepth 100000
/-- what the reading of a tag or a comment leaves -/
def MarkP (B b : Nat) (vs : List TokV) (x : List UInt8) (W0 : World) (m : MarkR) (w' : World) : Prop :=
  ∃ o' vs', Rdr B b o' vs' (addT (vs.map Prod.fst) x m).2 W0 w' ∧ vs'.map Prod.fst = (addT (vs.map Prod.fst) x m).1 ∧ vs'.length ≤ vs.length + 2
theorem MarkP.none {B b : Nat} {o : Value} {vs : List TokV} {x l : List UInt8} {W0 w : World} (h : Rdr B b o vs x W0 w) : MarkP B b vs x W0 (none, [], l) w := by
  refine ⟨o, vs, ?_, rfl, Nat.le_add_right _ _⟩
  show Rdr B b o vs (x ++ []) W0 w
  rw [List.append_nil]
  exact h
theorem endL_none {dec : List UInt8 → List UInt8} {l : List UInt8} (h : tagL dec l = none) : endL dec l = (none, [], []) := by unfold endL; rw [h]
theorem endL_some {dec : List UInt8 → List UInt8} {l n b : List UInt8} {A : List AtL} (h : tagL dec l = some (n, A, b)) : endL dec l = (some (endT n), [], b) := by unfold endL; rw [h]
set_option maxHeartbeats 4000000 in
theorem end_any (B b : Nat) (o : Value) (vs : List TokV) (x : List UInt8) (W0 w : World) (s : ByteArray) (h : Rdr B b o vs x W0 w) (hn : vs.length ≤ 1099511627776) (hs : s.size ≤ 16777216) (hE : EnvE w) :
    Calls Tryz.prog 94 #[.pointer (some ⟨b, 0, none⟩), .string s] w fun e w' => e = .returned (.string (str (endL decE s.data.toList).2.2)) ∧ MarkP B b vs x W0 (endL decE s.data.toList) w' := by
  have HT := hide (readTag_any s w hs hE)
  have HH := hide h
  cases ht : tagL decE s.data.toList with
  | none =>
    rw [ht] at HT
    have HV := hide (endL_none ht)
    clear ht h hE
    unfold tagV at HT
    go_enter Tryz.func94, Tryz.ntmps94
    go_wp2_with fail
    refine HT.out.mono ?_
    rintro e w1 ⟨v, rfl, hr, hb⟩
    have HR := hide (HH.out.kept hb)
    clear hr hb
    go_wp2_with fail
    go_ret
    exact ⟨by rw [HV.out]; rfl, by rw [HV.out]; exact MarkP.none HR.out⟩
  | some p =>
    obtain ⟨n, A, q⟩ := p
    rw [ht] at HT
    have HV := hide (endL_some ht)
    have HADD := hide (fun w2 (h2 : Rdr B b o vs x W0 w2) => add_any B b o vs x W0 w2 h2 hn (endT n) (.slice none 0 0) (World.ownsRow_nil w2 B _ 2))
    clear ht h hE
    unfold tagV at HT
    go_enter Tryz.func94, Tryz.ntmps94
    go_wp2_with fail
    refine HT.out.mono ?_
    rintro e w1 ⟨v, rfl, hr, hb⟩
    have HR := hide (HH.out.kept hb)
    clear hr hb
    go_wp2_with fail
    refine (HADD.out _ HR.out).mono ?_
    rintro e w2 ⟨rfl, o2, vs2, r2, m2, l2⟩
    have HR2 := hide r2
    have HM2 := hide m2
    have HL2 := hide l2
    clear r2 m2 l2
    go_wp2_with fail
    go_ret
    exact ⟨by rw [HV.out]; rfl, by rw [HV.out]; exact ⟨o2, vs2, HR2.out, HM2.out, HL2.out⟩⟩
set_option maxHeartbeats 4000000 in
theorem comment_any (B b : Nat) (o : Value) (vs : List TokV) (x : List UInt8) (W0 w : World) (s : ByteArray) (h : Rdr B b o vs x W0 w) (hn : vs.length ≤ 1099511627776) (hs : s.size ≤ 16777216) :
    Calls Tryz.prog 97 #[.pointer (some ⟨b, 0, none⟩), .string s, .string ⟨#[62]⟩] w fun e w' => e = .returned (.string (str (remL s.data.toList).2.2)) ∧ MarkP B b vs x W0 (remL s.data.toList) w' := by
  have HC := hide (strCut_any s 62 w (Nat.le_trans hs (by decide)))
  have HH := hide h
  have HADD := hide (fun w2 (h2 : Rdr B b o vs x W0 w2) => add_any B b o vs x W0 w2 h2 hn (remT (beforeC 62 s.data.toList)) (.slice none 0 0) (World.ownsRow_nil w2 B _ 2))
  clear h
  unfold cutV at HC
  go_enter Tryz.func97, Tryz.ntmps97
  go_wp2_with fail
  refine HC.out.mono ?_
  rintro e w1 ⟨rfl, hb⟩
  have HR := hide (HH.out.kept hb)
  clear hb
  go_wp2_with fail
  refine (HADD.out _ HR.out).mono ?_
  rintro e w2 ⟨rfl, o2, vs2, r2, m2, l2⟩
  have HR2 := hide r2
  have HM2 := hide m2
  have HL2 := hide l2
  clear r2 m2 l2
  go_wp2_with fail
  go_ret
  exact ⟨rfl, o2, vs2, HR2.out, HM2.out, HL2.out⟩
end Go.Proofs.YtgokefodmjhhiaaGreatDoor

/- WALKS of htok's reader: comment at its long sign, longComment. No statement is proved here. Own work of the verifier. -/
namespace Go.Proofs.YtgokefodmjhhiaaGreatDoor
open Go.RowKit
set_option linter.unusedVariables false
set_option linter.unusedSimpArgs false
set_option maxRecDepth 100000
theorem index_cutAt (t : List UInt8) (ht : t ≠ []) : ∀ l : List UInt8, (Lib.index l t = -1 ∧ cutAt t l = (l, [])) ∨ ∃ o : Nat, Lib.index l t = o ∧ o + t.length ≤ l.length ∧ cutAt t l = (l.take o, l.drop (o + t.length))
  | [] => .inl ⟨by
      unfold Lib.index
      rw [if_neg (by simpa using ht)], rfl⟩
  | c :: r => by
    by_cases hp : t.isPrefixOf (c :: r) = true
    · refine .inr ⟨0, by unfold Lib.index; rw [if_pos hp]; rfl, ?_, by unfold cutAt; rw [if_pos hp, Nat.zero_add]; rfl⟩
      obtain ⟨q, hq⟩ := List.isPrefixOf_iff_prefix.1 hp
      rw [← hq, List.length_append]
      omega
    · rcases index_cutAt t ht r with ⟨h1, h2⟩ | ⟨o, h1, h2, h3⟩
      · refine .inl ⟨?_, by unfold cutAt; rw [if_neg hp, h2]⟩
        unfold Lib.index
        rw [if_neg hp, h1]
        rfl
      · refine .inr ⟨o + 1, ?_, by rw [List.length_cons]; omega, ?_⟩
        · unfold Lib.index
          have hne : ((o : Int) == -1) = false := by rw [beq_eq_false_iff_ne]; omega
          rw [if_neg hp, h1, hne]
          rfl
        · unfold cutAt
          rw [if_neg hp, h3, show o + 1 + t.length = (o + t.length) + 1 by omega]
          rfl
/-- what Cut answers at a long sign -/
def cutLV (l : List UInt8) (f : Bool) : Value := .tuple #[.string (str (cutAt remEnd l).1), .string (str (cutAt remEnd l).2), .bool f]
set_option maxHeartbeats 1000000 in
theorem cutL_any (s : ByteArray) (m : Int) (w : World) (hs : s.size ≤ 16777216) (hm : w.cell? ⟨0, 0, none⟩ = some (.int .i64 m)) :
    Calls Tryz.prog 130 #[.string s, .string ⟨#[45, 45, 62]⟩] w fun e w' => ∃ f, e = .returned (cutLV s.data.toList f) ∧ Below w.heap.size w w' := by
  have hz : (⟨#[45, 45, 62]⟩ : ByteArray).size = 3 := rfl
  have HI := hide (Tryz.stringslite_Index s ⟨#[45, 45, 62]⟩ m w (by omega) hm)
  clear hm
  rcases index_cutAt remEnd (by decide) s.data.toList with ⟨i1, i2⟩ | ⟨o, i1, i2, i3⟩
  · rw [show (⟨#[45, 45, 62]⟩ : ByteArray).data.toList = remEnd from rfl, i1] at HI
    have I2 := hide i2
    clear i1 i2
    go_enter Tryz.func130, Tryz.ntmps130
    go_wp2_with fail
    refine HI.out.mono ?_
    rintro e w1 ⟨rfl, hw⟩
    subst hw
    go_wp2_with fail
    go_ret3
    exact ⟨false, ret_cut (by rw [I2.out]; exact (str_of s).symm) (by rw [I2.out]; rfl) rfl, Below.refl _ _⟩
  · rw [show (⟨#[45, 45, 62]⟩ : ByteArray).data.toList = remEnd from rfl, i1] at HI
    have I3 := hide i3
    rw [toList_length, show remEnd.length = 3 from rfl] at i2
    have o1 : (o : Int) + 3 ≤ s.size := by omega
    have o0 : (0 : Int) ≤ o := by omega
    have o2 : (o : Int) ≤ s.size := by omega
    have o3 : (0 : Int) ≤ (o : Int) + 3 := by omega
    have o4 : ((o : Int) + 3).toNat = o + 3 := by omega
    clear i1 i3
    go_enter Tryz.func130, Tryz.ntmps130
    go_wp2_with fail
    refine HI.out.mono ?_
    rintro e w1 ⟨rfl, hw⟩
    subst hw
    go_wp2_with fail
    go_region
    all_goals (try go_wp2)
    all_goals
      go_ret3
      exact ⟨true, ret_cut (ext_list (by rw [extract_list, List.drop_zero, str_toList, I3.out])) (ext_list (by rw [extract_end, str_toList, I3.out]; rfl)) rfl, (Below.refl _ _).drew⟩
set_option maxHeartbeats 1000000 in
theorem strCutL_any (s : ByteArray) (m : Int) (w : World) (hs : s.size ≤ 16777216) (hm : w.cell? ⟨0, 0, none⟩ = some (.int .i64 m)) :
    Calls Tryz.prog 90 #[.string s, .string ⟨#[45, 45, 62]⟩] w fun e w' => ∃ f, e = .returned (cutLV s.data.toList f) ∧ Below w.heap.size w w' := by
  have HC := hide (cutL_any s m w hs hm)
  clear hm
  go_enter Tryz.func90, Tryz.ntmps90
  go_wp2_with fail
  refine HC.out.mono ?_
  rintro e w1 ⟨f, rfl, hb⟩
  unfold cutLV
  go_wp2_with fail
  go_ret3
  exact ⟨f, rfl, hb⟩
/-- a long comment that does not end at once -/
def remLL (l : List UInt8) : MarkR := (some (remT (cutAt remEnd l).1), [], (cutAt remEnd l).2)
set_option maxHeartbeats 4000000 in
theorem commentL_any (B b : Nat) (o : Value) (vs : List TokV) (x : List UInt8) (W0 w : World) (s : ByteArray) (m : Int) (h : Rdr B b o vs x W0 w) (hn : vs.length ≤ 1099511627776) (hs : s.size ≤ 16777216) (hm : w.cell? ⟨0, 0, none⟩ = some (.int .i64 m)) :
    Calls Tryz.prog 97 #[.pointer (some ⟨b, 0, none⟩), .string s, .string ⟨#[45, 45, 62]⟩] w fun e w' => e = .returned (.string (str (remLL s.data.toList).2.2)) ∧ MarkP B b vs x W0 (remLL s.data.toList) w' := by
  have HC := hide (strCutL_any s m w hs hm)
  have HH := hide h
  have HADD := hide (fun w2 (h2 : Rdr B b o vs x W0 w2) => add_any B b o vs x W0 w2 h2 hn (remT (cutAt remEnd s.data.toList).1) (.slice none 0 0) (World.ownsRow_nil w2 B _ 2))
  clear h hm
  unfold cutLV at HC
  go_enter Tryz.func97, Tryz.ntmps97
  go_wp2_with fail
  refine HC.out.mono ?_
  rintro e w1 ⟨f, rfl, hb⟩
  have HR := hide (HH.out.kept hb)
  clear hb
  go_wp2_with fail
  refine (HADD.out _ HR.out).mono ?_
  rintro e w2 ⟨rfl, o2, vs2, r2, m2, l2⟩
  have HR2 := hide r2
  have HM2 := hide m2
  have HL2 := hide l2
  clear r2 m2 l2
  go_wp2_with fail
  go_ret
  exact ⟨rfl, o2, vs2, HR2.out, HM2.out, HL2.out⟩
end Go.Proofs.YtgokefodmjhhiaaGreatDoor

/- WALK of htok.Raw, alone (for seats without rules). No statement is proved here. Own work of the verifier. -/
namespace Go.Proofs.YtgokefodmjhhiaaGreatDoor
open Go.RowKit
set_option linter.unusedVariables false
set_option linter.unusedSimpArgs false
set_option maxRecDepth 100000
set_option maxHeartbeats 4000000 in
theorem rawW_any (n : ByteArray) (w : World) :
    Calls Tryz.prog 19 #[.string n] w fun e w' => e = .returned (.bool (rawL.contains n.data.toList)) ∧ w = w' := by
  cases hk : rawL.contains n.data.toList with
  | true =>
    rcases rawL_cases _ hk with h | h | h | h | h | h | h | h | h | h
    · obtain rfl : n = ⟨#[115, 99, 114, 105, 112, 116]⟩ := ext_list h
      clear hk h
      go_enter Tryz.func19, Tryz.ntmps19
      go_wp2_with fail
      go_ret
      exact ⟨rfl, rfl⟩
    · obtain rfl : n = ⟨#[115, 116, 121, 108, 101]⟩ := ext_list h
      clear hk h
      go_enter Tryz.func19, Tryz.ntmps19
      go_wp2_with fail
      go_ret
      exact ⟨rfl, rfl⟩
    · obtain rfl : n = ⟨#[116, 105, 116, 108, 101]⟩ := ext_list h
      clear hk h
      go_enter Tryz.func19, Tryz.ntmps19
      go_wp2_with fail
      go_ret
      exact ⟨rfl, rfl⟩
    · obtain rfl : n = ⟨#[116, 101, 120, 116, 97, 114, 101, 97]⟩ := ext_list h
      clear hk h
      go_enter Tryz.func19, Tryz.ntmps19
      go_wp2_with fail
      go_ret
      exact ⟨rfl, rfl⟩
    · obtain rfl : n = ⟨#[120, 109, 112]⟩ := ext_list h
      clear hk h
      go_enter Tryz.func19, Tryz.ntmps19
      go_wp2_with fail
      go_ret
      exact ⟨rfl, rfl⟩
    · obtain rfl : n = ⟨#[105, 102, 114, 97, 109, 101]⟩ := ext_list h
      clear hk h
      go_enter Tryz.func19, Tryz.ntmps19
      go_wp2_with fail
      go_ret
      exact ⟨rfl, rfl⟩
    · obtain rfl : n = ⟨#[110, 111, 101, 109, 98, 101, 100]⟩ := ext_list h
      clear hk h
      go_enter Tryz.func19, Tryz.ntmps19
      go_wp2_with fail
      go_ret
      exact ⟨rfl, rfl⟩
    · obtain rfl : n = ⟨#[110, 111, 102, 114, 97, 109, 101, 115]⟩ := ext_list h
      clear hk h
      go_enter Tryz.func19, Tryz.ntmps19
      go_wp2_with fail
      go_ret
      exact ⟨rfl, rfl⟩
    · obtain rfl : n = ⟨#[112, 108, 97, 105, 110, 116, 101, 120, 116]⟩ := ext_list h
      clear hk h
      go_enter Tryz.func19, Tryz.ntmps19
      go_wp2_with fail
      go_ret
      exact ⟨rfl, rfl⟩
    · obtain rfl : n = ⟨#[110, 111, 115, 99, 114, 105, 112, 116]⟩ := ext_list h
      clear hk h
      go_enter Tryz.func19, Tryz.ntmps19
      go_wp2_with fail
      go_ret
      exact ⟨rfl, rfl⟩
  | false =>
    obtain ⟨n0, n1, n2, n3, n4, n5, n6, n7, n8, n9⟩ := rawL_none _ hk
    have t0 : (n.toList == [115, 99, 114, 105, 112, 116]) = false := beq_eq_false_iff_ne.2 (by rw [bytes_list]; exact n0)
    have t1 : (n.toList == [115, 116, 121, 108, 101]) = false := beq_eq_false_iff_ne.2 (by rw [bytes_list]; exact n1)
    have t2 : (n.toList == [116, 105, 116, 108, 101]) = false := beq_eq_false_iff_ne.2 (by rw [bytes_list]; exact n2)
    have t3 : (n.toList == [116, 101, 120, 116, 97, 114, 101, 97]) = false := beq_eq_false_iff_ne.2 (by rw [bytes_list]; exact n3)
    have t4 : (n.toList == [120, 109, 112]) = false := beq_eq_false_iff_ne.2 (by rw [bytes_list]; exact n4)
    have t5 : (n.toList == [105, 102, 114, 97, 109, 101]) = false := beq_eq_false_iff_ne.2 (by rw [bytes_list]; exact n5)
    have t6 : (n.toList == [110, 111, 101, 109, 98, 101, 100]) = false := beq_eq_false_iff_ne.2 (by rw [bytes_list]; exact n6)
    have t7 : (n.toList == [110, 111, 102, 114, 97, 109, 101, 115]) = false := beq_eq_false_iff_ne.2 (by rw [bytes_list]; exact n7)
    have t8 : (n.toList == [112, 108, 97, 105, 110, 116, 101, 120, 116]) = false := beq_eq_false_iff_ne.2 (by rw [bytes_list]; exact n8)
    have t9 : (n.toList == [110, 111, 115, 99, 114, 105, 112, 116]) = false := beq_eq_false_iff_ne.2 (by rw [bytes_list]; exact n9)
    clear hk n0 n1 n2 n3 n4 n5 n6 n7 n8 n9
    go_enter Tryz.func19, Tryz.ntmps19
    go_wp2_with fail
    go_ret
    exact ⟨rfl, rfl⟩
end Go.Proofs.YtgokefodmjhhiaaGreatDoor

/- WALKS of htok's reader: longComment, start. No statement is proved here. Own work of the verifier. -/
namespace Go.Proofs.YtgokefodmjhhiaaGreatDoor
open Go.RowKit
set_option linter.unusedVariables false
set_option linter.unusedSimpArgs false
set_option maxRecDepth 100000
theorem idxL (k : Nat) (h : k < 2) (w : World) : (Instr.index 138 (Value.agg #[.string ⟨#[62]⟩, .string ⟨#[45, 62]⟩]) (.int .i64 k)).run Tryz.prog w = .ok (.string (if k = 0 then ⟨#[62]⟩ else ⟨#[45, 62]⟩)) w := by
  match k, h with
  | 0, _ => rfl
  | 1, _ => rfl
theorem longL_1 (r : List UInt8) : longL (62 :: r) = (some (remT []), [], r) := rfl
theorem longL_2 (r : List UInt8) : longL (45 :: 62 :: r) = (some (remT []), [], r) := rfl
theorem longL_no {l : List UInt8} (h1 : l.head? ≠ some 62) (h2 : Lib.hasPrefix l [45, 62] = false) : longL l = remLL l := by
  unfold longL
  split
  · exact absurd rfl h1
  · simp [Lib.hasPrefix] at h2
  · rfl
theorem dash_yes {l : List UInt8} (h : Lib.hasPrefix l [45, 62] = true) : ∃ r, l = 45 :: 62 :: r ∧ Lib.trimPrefix l [45, 62] = r := by
  have h' := h
  unfold Lib.hasPrefix at h
  obtain ⟨r, hr⟩ := List.isPrefixOf_iff_prefix.1 h
  refine ⟨r, hr.symm, ?_⟩
  unfold Lib.trimPrefix
  rw [h', ← hr]
  rfl
set_option maxHeartbeats 8000000 in
theorem longComment_any (B b : Nat) (o : Value) (vs : List TokV) (x : List UInt8) (W0 w : World) (s : ByteArray) (m : Int) (h : Rdr B b o vs x W0 w) (hn : vs.length ≤ 1099511627776) (hs : s.size ≤ 16777216) (hm : w.cell? ⟨0, 0, none⟩ = some (.int .i64 m)) :
    Calls Tryz.prog 96 #[.pointer (some ⟨b, 0, none⟩), .string s] w fun e w' => e = .returned (.string (str (longL s.data.toList).2.2)) ∧ MarkP B b vs x W0 (longL s.data.toList) w' := by
  have i0 : ∀ w : World, (Instr.index 138 (Value.agg #[.string ⟨#[62]⟩, .string ⟨#[45, 62]⟩]) (.int .i64 0)).run Tryz.prog w = .ok (.string ⟨#[62]⟩) w := fun w => idxL 0 (by omega) w
  have i1 : ∀ w : World, (Instr.index 138 (Value.agg #[.string ⟨#[62]⟩, .string ⟨#[45, 62]⟩]) (.int .i64 1)).run Tryz.prog w = .ok (.string ⟨#[45, 62]⟩) w := fun w => idxL 1 (by omega) w
  have HCL := hide (commentL_any B b o vs x W0 w s m h hn hs hm)
  have HADD := hide (add_any B b o vs x W0 w h hn (remT []) (.slice none 0 0) (World.ownsRow_nil w B _ 2))
  clear h hm
  go_enter Tryz.func96, Tryz.ntmps96
  go_wp2_with fail
  go_loopw [10] (fun i wr => ∃ k : Nat, k ≤ 2 ∧ i = .int .i64 k ∧ Hid (1 ≤ k → s.data.toList.head? ≠ some 62) ∧ Hid (2 ≤ k → Lib.hasPrefix s.data.toList [45, 62] = false) ∧ Hid (wr = w)) (fun i _ => 2 - (intOf i).toNat)
  case atStart => exact ⟨0, Nat.zero_le _, rfl, hide (fun h => absurd h (by omega)), hide (fun h => absurd h (by omega)), hide rfl⟩
  case round =>
    obtain ⟨k, hk, rfl, H1, H2, HW⟩ := hrel
    obtain rfl := HW.out
    match k, hk with
    | 0, _ =>
      rcases quote_cut 62 s.data.toList with ⟨hp, r, hr, htr⟩ | ⟨hp, hno⟩
      · obtain ⟨T, hT⟩ : ∃ T : ByteArray, T = str r := ⟨_, rfl⟩
        have HP : Hid (Lib.hasPrefix s.data.toList (⟨#[62]⟩ : ByteArray).data.toList = true) := hide hp
        have HT : Hid ((⟨(Lib.trimPrefix s.data.toList (⟨#[62]⟩ : ByteArray).data.toList).toArray⟩ : ByteArray) = T) := hide (by
          rw [hT]
          exact congrArg str htr)
        have HR : Hid (longL s.data.toList = (some (remT []), [], r)) := hide (by rw [hr]; exact longL_1 r)
        have HTE := hide hT
        clear hp hr htr hT
        go_wp2_with fail
        refine (Tryz.strings_CutPrefix s _ _).mono ?_
        rintro e w1 ⟨rfl, hw⟩
        subst hw
        rw [HP.out, HT.out]
        go_wp2_with fail
        refine HADD.out.mono ?_
        rintro e w2 ⟨rfl, o2, vs2, r2, m2, l2⟩
        have HR2 := hide r2
        have HM2 := hide m2
        have HL2 := hide l2
        clear r2 m2 l2
        go_wp2_with fail
        go_ret
        exact ⟨by rw [HR.out, HTE.out]; rfl, by rw [HR.out]; exact ⟨o2, vs2, HR2.out, HM2.out, HL2.out⟩⟩
      · have HP : Hid (Lib.hasPrefix s.data.toList (⟨#[62]⟩ : ByteArray).data.toList = false) := hide hp
        have HN := hide hno
        clear hp hno
        go_wp2_with fail
        refine (Tryz.strings_CutPrefix s _ _).mono ?_
        rintro e w1 ⟨rfl, hw⟩
        subst hw
        rw [HP.out]
        go_wp2_with fail
        go_roundw
        case rel => exact ⟨0 + 1, by omega, by go_num, hide (fun _ => HN.out), hide (fun h => absurd h (by omega)), by first | exact hide trivial | exact hide rfl | exact trivial⟩
        case measure => simp [intOf]
    | 1, _ =>
      cases hp : Lib.hasPrefix s.data.toList [45, 62] with
      | true =>
        obtain ⟨r, hr, htr⟩ := dash_yes hp
        obtain ⟨T, hT⟩ : ∃ T : ByteArray, T = str r := ⟨_, rfl⟩
        have HP : Hid (Lib.hasPrefix s.data.toList (⟨#[45, 62]⟩ : ByteArray).data.toList = true) := hide hp
        have HT : Hid ((⟨(Lib.trimPrefix s.data.toList (⟨#[45, 62]⟩ : ByteArray).data.toList).toArray⟩ : ByteArray) = T) := hide (by
          rw [hT]
          exact congrArg str htr)
        have HR : Hid (longL s.data.toList = (some (remT []), [], r)) := hide (by rw [hr]; exact longL_2 r)
        have HTE := hide hT
        clear hp hr htr hT
        go_wp2_with fail
        refine (Tryz.strings_CutPrefix s _ _).mono ?_
        rintro e w1 ⟨rfl, hw⟩
        subst hw
        rw [HP.out, HT.out]
        go_wp2_with fail
        refine HADD.out.mono ?_
        rintro e w2 ⟨rfl, o2, vs2, r2, m2, l2⟩
        have HR2 := hide r2
        have HM2 := hide m2
        have HL2 := hide l2
        clear r2 m2 l2
        go_wp2_with fail
        go_ret
        exact ⟨by rw [HR.out, HTE.out]; rfl, by rw [HR.out]; exact ⟨o2, vs2, HR2.out, HM2.out, HL2.out⟩⟩
      | false =>
        have HP : Hid (Lib.hasPrefix s.data.toList (⟨#[45, 62]⟩ : ByteArray).data.toList = false) := hide hp
        have HN := hide hp
        clear hp
        go_wp2_with fail
        refine (Tryz.strings_CutPrefix s _ _).mono ?_
        rintro e w1 ⟨rfl, hw⟩
        subst hw
        rw [HP.out]
        go_wp2_with fail
        go_roundw
        case rel => exact ⟨1 + 1, by omega, by go_num, hide (fun _ => H1.out (by omega)), hide (fun _ => by first | exact HN.out | exact trivial), by first | exact hide trivial | exact hide rfl | exact trivial⟩
        case measure => simp [intOf]
    | 2, _ =>
      have HR := hide (longL_no (H1.out (by omega)) (H2.out (by omega)))
      go_wp2_with fail
      refine HCL.out.mono ?_
      rintro e w1 ⟨rfl, hb⟩
      have HB := hide hb
      clear hb
      go_wp2_with fail
      go_ret
      exact ⟨by rw [HR.out]; rfl, by rw [HR.out]; exact HB.out⟩
theorem startL_none {dec : List UInt8 → List UInt8} {l : List UInt8} (h : tagL dec l = none) : startL dec l = (none, [], []) := by unfold startL; rw [h]
theorem startL_raw {dec : List UInt8 → List UInt8} {l n b : List UInt8} {A : List AtL} (h : tagL dec l = some (n, A, b)) (hr : rawL.contains n = true) : startL dec l = (some (startT n A), b.take (rawSizeL n b), b.drop (rawSizeL n b)) := by
  unfold startL; rw [h]; exact if_pos hr
theorem startL_no {dec : List UInt8 → List UInt8} {l n b : List UInt8} {A : List AtL} (h : tagL dec l = some (n, A, b)) (hr : rawL.contains n = false) : startL dec l = (some (startT n A), [], b) := by
  unfold startL; rw [h]; exact if_neg (by rw [hr]; exact Bool.false_ne_true)
theorem tagL_name {dec : List UInt8 → List UInt8} {l n b : List UInt8} {A : List AtL} (h : tagL dec l = some (n, A, b)) : n.length ≤ l.length := by
  unfold tagL at h
  have h1 := upL_len nameEndB l
  cases ha : attrsLL dec [] (upL nameEndB l).2 with
  | none => rw [ha] at h; cases h
  | some p =>
    obtain ⟨A2, b2⟩ := p
    rw [ha] at h
    injection h with h
    injection h with h2 _
    rw [← h2]
    unfold lowL
    rw [List.length_map]
    omega
set_option maxHeartbeats 8000000 in
theorem start_any (B b : Nat) (o : Value) (vs : List TokV) (x : List UInt8) (W0 w : World) (s : ByteArray) (h : Rdr B b o vs x W0 w) (hn : vs.length ≤ 1099511627776) (hs : s.size ≤ 16777216) (hE : EnvE w) :
    Calls Tryz.prog 98 #[.pointer (some ⟨b, 0, none⟩), .string s] w fun e w' => e = .returned (.string (str (startL decE s.data.toList).2.2)) ∧ MarkP B b vs x W0 (startL decE s.data.toList) w' := by
  have HT := hide (readTag_any s w hs hE)
  have HH := hide h
  have HSZ := hide h.size
  cases ht : tagL decE s.data.toList with
  | none =>
    rw [ht] at HT
    have HV := hide (startL_none ht)
    clear ht h hE
    unfold tagV at HT
    go_enter Tryz.func98, Tryz.ntmps98
    go_wp2_with fail
    refine HT.out.mono ?_
    rintro e w1 ⟨v, rfl, hr, hb⟩
    have HR := hide (HH.out.kept hb)
    clear hr hb
    go_wp2_with fail
    go_ret
    exact ⟨by rw [HV.out]; rfl, by rw [HV.out]; exact MarkP.none HR.out⟩
  | some p =>
    obtain ⟨n, A, q⟩ := p
    rw [ht] at HT
    have hnl := tagL_name ht
    have hql := tagL_len ht
    rw [toList_length] at hnl hql
    have HADD := hide (fun w2 u (h2 : Rdr B b o vs x W0 w2) (hu : w2.ownsRow B 32 2 u A.length (atVals A)) => add_any B b o vs x W0 w2 h2 hn (startT n A) u hu)
    have HRAW := hide (fun w2 => rawW_any (str n) w2)
    rw [str_toList] at HRAW
    cases hraw : rawL.contains n with
    | false =>
      rw [hraw] at HRAW
      have HV := hide (startL_no ht hraw)
      clear ht h hE hraw
      unfold tagV at HT
      go_enter Tryz.func98, Tryz.ntmps98
      go_wp2_with fail
      refine HT.out.mono ?_
      rintro e w1 ⟨v, rfl, hr, hb⟩
      have HR := hide (HH.out.kept hb)
      obtain ⟨A1, z1, rfl⟩ := at_form hr
      have HU := hide (ownsRow_down hr HSZ.out)
      clear hr hb
      go_wp2_with fail
      refine (HADD.out _ _ HR.out HU.out).mono ?_
      rintro e w2 ⟨rfl, o2, vs2, r2, m2, l2⟩
      have HR2 := hide r2
      have HM2 := hide m2
      have HL2 := hide l2
      clear r2 m2 l2
      go_wp2_with fail
      refine (HRAW.out _).mono ?_
      rintro e w3 ⟨rfl, rfl⟩
      go_wp2_with fail
      go_ret
      exact ⟨by rw [HV.out]; rfl, by rw [HV.out]; exact ⟨o2, vs2, HR2.out, HM2.out, HL2.out⟩⟩
    | true =>
      rw [hraw] at HRAW
      have HV := hide (startL_raw ht hraw)
      obtain ⟨K, hK⟩ : ∃ K, K = rawSizeL n q := ⟨_, rfl⟩
      have hKl : K ≤ q.length := by rw [hK]; exact rawSizeL_le n q
      have HRS := hide (fun w2 => rawSize_any (str q) (str n) w2 (by rw [str_size]; omega) (by rw [str_size]; omega))
      simp only [str_toList] at HRS
      rw [← hK] at HRS HV
      have hqs : (str q).size = q.length := str_size q
      obtain ⟨QS, hQS⟩ : ∃ QS, QS = str q := ⟨_, rfl⟩
      rw [← hQS] at hqs
      have k0 : (0 : Int) ≤ K := by omega
      have k1 : (K : Int) ≤ QS.size := by omega
      have hx1 : (QS.extract 0 K).data.toList = q.take K := by rw [extract_list, List.drop_zero, hQS, str_toList]
      have hx2 : QS.extract K QS.size = str (q.drop K) := ext_list (by rw [extract_end, str_toList, hQS, str_toList])
      have hxz : (QS.extract 0 K).size ≤ 16777216 := by rw [ByteArray.size_extract]; omega
      have HX1 := hide hx1
      have HX2 := hide hx2
      have HXZ := hide hxz
      have HQ := hide hQS
      clear ht h hE hraw hK hqs hx1 hx2 hxz
      unfold tagV at HT
      simp only [← hQS] at HT HRS
      clear hQS
      go_enter Tryz.func98, Tryz.ntmps98
      go_wp2_with fail
      refine HT.out.mono ?_
      rintro e w1 ⟨v, rfl, hr, hb⟩
      have HR := hide (HH.out.kept hb)
      obtain ⟨A1, z1, rfl⟩ := at_form hr
      have HU := hide (ownsRow_down hr HSZ.out)
      clear hr hb
      go_wp2_with fail
      refine (HADD.out _ _ HR.out HU.out).mono ?_
      rintro e w2 ⟨rfl, o2, vs2, r2, m2, l2⟩
      have HR2 := hide r2
      have HM2 := hide m2
      have HL2 := hide l2
      clear r2 m2 l2
      go_wp2_with fail
      refine (HRAW.out _).mono ?_
      rintro e w3 ⟨rfl, rfl⟩
      go_wp2_with fail
      refine (HRS.out _).mono ?_
      rintro e w4 ⟨rfl, hb4⟩
      have HR4 := hide (HR2.out.kept hb4)
      clear hb4
      have HWR := hide (writeR_any B b o2 vs2 [] (QS.extract 0 K) W0 w4.drew (HR4.out.kept ((Below.refl _ _).drew)) (by have := HXZ.out; simp only [List.length_nil]; omega))
      go_wp2_with fail
      go_region_law (first
        | (go_simp; go_at_call 45; refine HWR.out.mono ?_; rintro e w5 ⟨rfl, hr5⟩; have HR5 := hide hr5; clear hr5)
        | fail)
      all_goals
        try go_wp2_with fail
        go_ret
        refine ⟨by rw [HV.out]; first | rfl | (rw [HX2.out]; rfl), ?_⟩
        rw [HV.out]
        refine ⟨o2, vs2, ?_, HM2.out, HL2.out⟩
        have r5 := HR5.out
        rw [HX1.out] at r5
        exact r5
end Go.Proofs.YtgokefodmjhhiaaGreatDoor

