/- WALK of addr.Good. No statement is proved here. -/
import Derived.Test.YtnckbdkofbhilaaGreatDoorAddrP
import Derived.Test.YtnckbdkofbhilaaGreatDoorBaseM
import Derived.Test.YtnckbdkofbhilaaGreatDoorAny
import Derived.Test.YtnckbdkofbhilaaGreatDoorCut
namespace Go.Proofs.YtnckbdkofbhilaaGreatDoor
open Go.RowKit
set_option linter.unusedVariables false
set_option linter.unusedSimpArgs false
set_option maxRecDepth 100000
def notOne : List UInt8 := [60, 62, 40, 41, 44, 59, 58, 92, 34]
def hasAt (l : List UInt8) : Bool := decide (0 ≤ Lib.indexByte l 64)
def goodL (l : List UInt8) : Bool :=
  if withinB 33 126 l && !hasAny notOne l then beforeC 64 l != [] && (afterC 64 l != [] && !hasAt (afterC 64 l)) else false
set_option maxHeartbeats 1000000 in
theorem good_any (s : ByteArray) (w : World) (hs : s.size ≤ 1048576) :
    Calls Tryz.prog 20 #[.string s] w fun e w' => e = .returned (.bool (goodL s.data.toList)) ∧ Below w.heap.size w w' := by
  have HS : Hid (s.size ≤ 1048576) := hide hs
  have C1 := hide (within_any s 33 126 w (Nat.le_trans hs (by decide)))
  have C2 := fun w1 => hide (containsAny_any s ⟨#[60, 62, 40, 41, 44, 59, 58, 92, 34]⟩ w1 (by decide) (by decide) hs (by decide))
  have C3 := fun w1 => hide (strCut_any s 64 w1 (Nat.le_trans hs (by decide)))
  clear hs
  have HG : Hid (goodL s.data.toList = if withinB 33 126 s.data.toList && !hasAny notOne s.data.toList then beforeC 64 s.data.toList != [] && (afterC 64 s.data.toList != [] && !hasAt (afterC 64 s.data.toList)) else false) := hide rfl
  cases h1 : withinB 33 126 s.data.toList with
  | false =>
    rw [h1] at C1 HG
    go_enter Tryz.func20, Tryz.ntmps20
    go_wp2_with (go_at_call 39; refine C1.out.mono ?_; rintro e w1 ⟨rfl, hw1⟩; obtain rfl : w = w1 := hw1)
    go_ret
    exact ⟨by rw [HG.out]; rfl, Below.refl _ _⟩
  | true =>
    cases h2 : hasAny notOne s.data.toList with
    | true =>
      rw [h1] at C1
      rw [h1, h2] at HG
      have C2' := fun w1 => hide (show Calls Tryz.prog 40 #[.string s, .string ⟨#[60, 62, 40, 41, 44, 59, 58, 92, 34]⟩] w1 fun e w' => e = .returned (.bool true) ∧ Below w1.heap.size w1 w' by rw [← h2]; exact (C2 w1).out)
      go_enter Tryz.func20, Tryz.ntmps20
      go_wp2_with (first
        | (go_at_call 39; refine C1.out.mono ?_; rintro e w1 ⟨rfl, hw1⟩; obtain rfl : w = w1 := hw1)
        | (go_at_call 40; refine (C2' _).out.mono ?_; rintro e w2 ⟨rfl, hb2⟩; have HB2 := hide hb2; clear hb2))
      go_ret
      exact ⟨by rw [HG.out]; rfl, HB2.out⟩
    | false =>
      rw [h1] at C1
      rw [h1, h2] at HG
      have C2' := fun w1 => hide (show Calls Tryz.prog 40 #[.string s, .string ⟨#[60, 62, 40, 41, 44, 59, 58, 92, 34]⟩] w1 fun e w' => e = .returned (.bool false) ∧ Below w1.heap.size w1 w' by rw [← h2]; exact (C2 w1).out)
      obtain ⟨U, hU⟩ : ∃ U, U = beforeC 64 s.data.toList := ⟨_, rfl⟩
      obtain ⟨V, hV⟩ : ∃ V, V = afterC 64 s.data.toList := ⟨_, rfl⟩
      have C4 := fun w1 => hide (Tryz.strings_Contains_one (str V) 64 w1)
      rw [← hU, ← hV] at HG
      have HU := hide hU
      have HV := hide hV
      clear h1 h2 hU hV
      have e0 : (str []).toList = [] := str_list []
      cases U with
      | nil =>
        go_enter Tryz.func20, Tryz.ntmps20
        go_wp2_with (first
          | (go_at_call 39; refine C1.out.mono ?_; rintro e w1 ⟨rfl, hw1⟩; obtain rfl : w = w1 := hw1)
          | (go_at_call 40; refine (C2' _).out.mono ?_; rintro e w2 ⟨rfl, hb2⟩; have HB2 := hide hb2; clear hb2)
          | (go_at_call 41; refine (C3 _).out.mono ?_; unfold cutV; rw [← HU.out, ← HV.out]; rintro e w3 ⟨rfl, hb3⟩; have HB3 := hide (HB2.out.trans (hb3.mono HB2.out.size)); clear hb3))
        go_ret
        exact ⟨by rw [HG.out]; rfl, HB3.out⟩
      | cons a r =>
        have e1 : (str (a :: r)).toList = a :: r := str_list _
        cases V with
        | nil =>
          go_enter Tryz.func20, Tryz.ntmps20
          go_wp2_with (first
            | (go_at_call 39; refine C1.out.mono ?_; rintro e w1 ⟨rfl, hw1⟩; obtain rfl : w = w1 := hw1)
            | (go_at_call 40; refine (C2' _).out.mono ?_; rintro e w2 ⟨rfl, hb2⟩; have HB2 := hide hb2; clear hb2)
            | (go_at_call 41; refine (C3 _).out.mono ?_; unfold cutV; rw [← HU.out, ← HV.out]; rintro e w3 ⟨rfl, hb3⟩; have HB3 := hide (HB2.out.trans (hb3.mono HB2.out.size)); clear hb3))
          go_ret
          exact ⟨by rw [HG.out]; rfl, HB3.out⟩
        | cons b t =>
          have e2 : (str (b :: t)).toList = b :: t := str_list _
          have HG2 : Hid (goodL s.data.toList = !hasAt (b :: t)) := hide (by rw [HG.out]; rfl)
          go_enter Tryz.func20, Tryz.ntmps20
          go_wp2_with (first
            | (go_at_call 39; refine C1.out.mono ?_; rintro e w1 ⟨rfl, hw1⟩; obtain rfl : w = w1 := hw1)
            | (go_at_call 40; refine (C2' _).out.mono ?_; rintro e w2 ⟨rfl, hb2⟩; have HB2 := hide hb2; clear hb2)
            | (go_at_call 41; refine (C3 _).out.mono ?_; unfold cutV; rw [← HU.out, ← HV.out]; rintro e w3 ⟨rfl, hb3⟩; have HB3 := hide (HB2.out.trans (hb3.mono HB2.out.size)); clear hb3)
            | (go_at_call 42; refine (C4 _).out.mono ?_; rintro e w4 ⟨rfl, hw4⟩; obtain rfl : w3 = w4 := hw4.symm; rw [str_toList, show decide (0 ≤ Lib.indexByte (b :: t) 64) = hasAt (b :: t) from rfl]))
          go_ret
          exact ⟨by rw [HG2.out]; rfl, HB3.out⟩
end Go.Proofs.YtnckbdkofbhilaaGreatDoor
