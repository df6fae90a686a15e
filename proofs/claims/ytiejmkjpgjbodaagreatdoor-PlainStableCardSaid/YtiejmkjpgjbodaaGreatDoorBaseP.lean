/- More of the first texts of this claim in one: each with its own head. No statement is proved here. -/
import Derived.Test.YtiejmkjpgjbodaaGreatDoorBaseO
import Derived.Test.YtiejmkjpgjbodaaGreatDoorBaseN
import Derived.Test.YtiejmkjpgjbodaaGreatDoorBaseM
import Derived.Test.YtiejmkjpgjbodaaGreatDoorShelf
import Derived.Lib.Builder
import Derived.Laws.Externs
import Derived.Deep.QuietTactic
import Derived.BigQuiet
import Derived.IntWalk
import Derived.Laws.OwnMore
import Derived.Deep.RegionLaw
import Derived.Lib.Repeat
namespace Go.Proofs.YtiejmkjpgjbodaaGreatDoor
open Go.RowKit
set_option linter.unusedVariables false
set_option linter.unusedSimpArgs false
set_option maxRecDepth 100000
def byN (l : List UInt8) : Option Int := if Lib.hasPrefix l [120] || Lib.hasPrefix l [88] then numAt 16 6 (l.drop 1) else numAt 10 7 l
def sgn (l : List UInt8) : Option Int := if Lib.hasPrefix l [35] = true then byN (Lib.trimPrefix l [35]) else nameN l
def refN (l : List UInt8) : Int × Nat :=
  match sgn (beforeC 59 (l.take 9)), hasC 59 (l.take 9) with
  | some x, true => (x, (beforeC 59 (l.take 9)).length + 1)
  | _, _ => (0, 0)
theorem byNumber_any (D : ByteArray) (ev : Value) (w : World) (hs : D.size ≤ 8) (hT : Tab w) (hU : Lib.Utf8Tabs 4 5 w)
    (hv : w.cell? ⟨1, 0, none⟩ = some ev) (hev : ev = .nilIface ∨ ∃ te pe, ev = .iface te pe) :
    Calls Tryz.prog 146 #[.string D] w fun e w' => e = .returned (entV (byN D.data.toList)) ∧ Below w.heap.size w w' := by
  cases p1 : Lib.hasPrefix D.data.toList [120] with
  | true =>
    have e : byN D.data.toList = numAt 16 6 (D.extract 1 D.size).data.toList := by unfold byN; rw [p1, extract_end]; rfl
    rw [e]; exact byNumber_x D ev w hs p1 hT hU hv hev
  | false =>
    cases p2 : Lib.hasPrefix D.data.toList [88] with
    | true =>
      have e : byN D.data.toList = numAt 16 6 (D.extract 1 D.size).data.toList := by unfold byN; rw [p1, p2, extract_end]; rfl
      rw [e]; exact byNumber_X D ev w hs p1 p2 hT hU hv hev
    | false =>
      have e : byN D.data.toList = numAt 10 7 D.data.toList := by unfold byN; rw [p1, p2]; rfl
      rw [e]; exact byNumber_d D ev w hs p1 p2 hT hU hv hev
theorem dig_size {C D : ByteArray} (hp : Lib.hasPrefix C.data.toList [35] = true) (hD : D.data.toList = Lib.trimPrefix C.data.toList [35]) (h : C.size ≤ 9) : D.size ≤ 8 := by
  have := congrArg List.length hD
  rw [toList_length] at this
  rw [this]
  unfold Lib.trimPrefix
  rw [hp]
  have := pref_size hp
  simp only [if_true, List.length_drop, toList_length]
  have e1 : ([35] : List UInt8).length = 1 := rfl
  omega
def refV (o : Int × Nat) : Value := .tuple #[.int .i32 o.1, .int .i64 o.2]
set_option maxHeartbeats 4000000 in
theorem reference_any (R : ByteArray) (b : Nat) (ev : Value) (w : World) (hs : R.size ≤ 16777216) (hM : SMapN w b 16 nameN) (hT : Tab w) (hU : Lib.Utf8Tabs 4 5 w)
    (hv : w.cell? ⟨1, 0, none⟩ = some ev) (hev : ev = .nilIface ∨ ∃ te pe, ev = .iface te pe) :
    Calls Tryz.prog 118 #[.string R, .map (some b)] w fun e w' => e = .returned (refV (refN R.data.toList)) ∧ Below w.heap.size w w' := by
  have zC : (beforeC 59 (R.data.toList.take 9)).length ≤ 9 := Nat.le_trans ((List.takeWhile_sublist _).length_le) (List.length_take_le _ _)
  obtain ⟨C, hC⟩ : ∃ C, C = str (beforeC 59 (R.data.toList.take 9)) := ⟨_, rfl⟩
  have hCt : C.data.toList = beforeC 59 (R.data.toList.take 9) := by rw [hC, str_toList]
  have HCS : Hid (C.size ≤ maxLen) := hide (by rw [hC, str_size]; exact Nat.le_trans zC (by decide))
  have hCs : C.size ≤ 9 := by rw [hC, str_size]; exact zC
  have HM := hide hM
  obtain ⟨D, hD⟩ : ∃ D, D = (⟨(Lib.trimPrefix C.data.toList [35]).toArray⟩ : ByteArray) := ⟨_, rfl⟩
  have hDt : D.data.toList = Lib.trimPrefix C.data.toList [35] := by rw [hD]
  have hpre := fun w1 => Tryz.strings_CutPrefix C ⟨#[35]⟩ w1
  rw [show (⟨#[35]⟩ : ByteArray).data.toList = [35] from rfl, ← hD] at hpre
  by_cases hz : R.size < 9
  · have m1 : decide ((R.size : Int) < 9) = true := decide_eq_true (by omega)
    have mn : min (R.size : Int) 9 = R.size := by omega
    obtain ⟨N, hN⟩ : ∃ N, N = R := ⟨_, rfl⟩
    have hNt : N.data.toList = R.data.toList.take 9 := by rw [hN, List.take_of_length_le (by rw [toList_length]; omega)]
    have hcut := fun w1 => strCut_any N 59 w1 (by rw [← toList_length, hNt]; exact Nat.le_trans (List.length_take_le _ _) (by decide))
    simp only [cutV] at hcut
    rw [hNt, ← hC, hN] at hcut
    cases hp : Lib.hasPrefix C.data.toList [35]
    · have HP : Hid (Lib.hasPrefix C.data.toList [35] = false) := hide hp
      rw [hp] at hpre
      have HPRE := hide hpre
      have hsg : sgn C.data.toList = nameN C.data.toList := by unfold sgn; rw [hp, if_neg (by decide)]
      cases hsn : nameN C.data.toList with
      | none =>
        rw [hsn] at hsg
        have HNM := hide hsn
        cases hend : hasC 59 (R.data.toList.take 9) with
        | false =>
          have HR : Hid (refN R.data.toList = (0, 0)) := hide (by unfold refN; rw [← hCt, hsg, hend])
          rw [hend] at hcut
          have HCUT := hide hcut
          clear hcut hsg hsn hend hp hpre hT hU hv hev hM hC hCt hDt hD hN hNt zC
          go_enter Tryz.func118, Tryz.ntmps118
          go_wp2_with (first | (go_at_call 113; with_reducible refine (HCUT.out _).mono ?_; rintro e w1 ⟨rfl, hb1⟩; have HB1 := hide hb1; clear hb1) | (go_at_call 122; with_reducible refine (HPRE.out _).mono ?_; rintro e wp ⟨rfl, hwp⟩; obtain rfl := hwp) | (at_lookup; refine wpList_sm_look rfl _ _ rfl b 16 nameN rfl (HM.out.kept HB1.out) C HCS.out rfl ?_; rw [HNM.out]))
          go_ret2
          exact ⟨by rw [HR.out]; rfl, HB1.out⟩
        | true =>
          have HR : Hid (refN R.data.toList = (0, 0)) := hide (by unfold refN; rw [← hCt, hsg, hend])
          rw [hend] at hcut
          have HCUT := hide hcut
          clear hcut hsg hsn hend hp hpre hT hU hv hev hM hC hCt hDt hD hN hNt zC
          go_enter Tryz.func118, Tryz.ntmps118
          go_wp2_with (first | (go_at_call 113; with_reducible refine (HCUT.out _).mono ?_; rintro e w1 ⟨rfl, hb1⟩; have HB1 := hide hb1; clear hb1) | (go_at_call 122; with_reducible refine (HPRE.out _).mono ?_; rintro e wp ⟨rfl, hwp⟩; obtain rfl := hwp) | (at_lookup; refine wpList_sm_look rfl _ _ rfl b 16 nameN rfl (HM.out.kept HB1.out) C HCS.out rfl ?_; rw [HNM.out]))
          go_ret2
          exact ⟨by rw [HR.out]; rfl, HB1.out⟩
      | some x =>
        rw [hsn] at hsg
        have HNM := hide hsn
        cases hend : hasC 59 (R.data.toList.take 9) with
        | false =>
          have HR : Hid (refN R.data.toList = (0, 0)) := hide (by unfold refN; rw [← hCt, hsg, hend])
          rw [hend] at hcut
          have HCUT := hide hcut
          clear hcut hsg hsn hend hp hpre hT hU hv hev hM hC hCt hDt hD hN hNt zC
          go_enter Tryz.func118, Tryz.ntmps118
          go_wp2_with (first | (go_at_call 113; with_reducible refine (HCUT.out _).mono ?_; rintro e w1 ⟨rfl, hb1⟩; have HB1 := hide hb1; clear hb1) | (go_at_call 122; with_reducible refine (HPRE.out _).mono ?_; rintro e wp ⟨rfl, hwp⟩; obtain rfl := hwp) | (at_lookup; refine wpList_sm_look rfl _ _ rfl b 16 nameN rfl (HM.out.kept HB1.out) C HCS.out rfl ?_; rw [HNM.out]))
          go_ret2
          exact ⟨by rw [HR.out]; rfl, HB1.out⟩
        | true =>
          have HR : Hid (refN R.data.toList = (x, C.size + 1)) := hide (by unfold refN; rw [← hCt, hsg, hend]; simp only [toList_length])
          rw [hend] at hcut
          have HCUT := hide hcut
          clear hcut hsg hsn hend hp hpre hT hU hv hev hM hC hCt hDt hD hN hNt zC
          go_enter Tryz.func118, Tryz.ntmps118
          go_wp2_with (first | (go_at_call 113; with_reducible refine (HCUT.out _).mono ?_; rintro e w1 ⟨rfl, hb1⟩; have HB1 := hide hb1; clear hb1) | (go_at_call 122; with_reducible refine (HPRE.out _).mono ?_; rintro e wp ⟨rfl, hwp⟩; obtain rfl := hwp) | (at_lookup; refine wpList_sm_look rfl _ _ rfl b 16 nameN rfl (HM.out.kept HB1.out) C HCS.out rfl ?_; rw [HNM.out]))
          go_ret2
          exact ⟨by rw [HR.out]; rfl, HB1.out⟩
    · have HP : Hid (Lib.hasPrefix C.data.toList [35] = true) := hide hp
      rw [hp] at hpre
      have HPRE := hide hpre
      obtain ⟨nm, hnm⟩ : ∃ nm, nameN C.data.toList = nm := ⟨_, rfl⟩
      have HNM := hide hnm
      have hsg : sgn C.data.toList = byN D.data.toList := by unfold sgn; rw [hp, if_pos rfl, hDt]
      have hds : D.size ≤ 8 := dig_size hp hDt (by rw [← hCt] at zC; rw [toList_length] at zC; exact zC)
      have hnum := fun w1 (hb : Below w.heap.size w w1) => byNumber_any D ev w1 hds (hT.below hb hT.lt) (tabs_kept hU hb) ((hb.cell (p := ⟨1, 0, none⟩) (World.block_lt_of_cell? _ _ hv)).trans hv) hev
      cases hsn : byN D.data.toList with
      | none =>
        rw [hsn] at hsg
        rw [hsn] at hnum
        simp only [entV] at hnum
        have HNUM := hide hnum
        cases hend : hasC 59 (R.data.toList.take 9) with
        | false =>
          have HR : Hid (refN R.data.toList = (0, 0)) := hide (by unfold refN; rw [← hCt, hsg, hend])
          rw [hend] at hcut
          have HCUT := hide hcut
          clear hcut hsg hsn hend hp hpre hT hU hv hev hM hC hCt hDt hD hN hNt zC hnm hnum hds
          go_enter Tryz.func118, Tryz.ntmps118
          go_wp2_with (first | (go_at_call 113; with_reducible refine (HCUT.out _).mono ?_; rintro e w1 ⟨rfl, hb1⟩; have HB1 := hide hb1; clear hb1) | (go_at_call 122; with_reducible refine (HPRE.out _).mono ?_; rintro e wp ⟨rfl, hwp⟩; obtain rfl := hwp) | (at_lookup; refine wpList_sm_look rfl _ _ rfl b 16 nameN rfl (HM.out.kept HB1.out) C HCS.out rfl ?_; rw [HNM.out]) | (go_at_call 146; with_reducible refine (HNUM.out _ HB1.out).mono ?_; rintro e w2 ⟨rfl, hb2⟩; have HB2 := hide (HB1.out.trans (hb2.mono HB1.out.size)); clear hb2))
          go_ret2
          exact ⟨by rw [HR.out]; rfl, HB2.out⟩
        | true =>
          have HR : Hid (refN R.data.toList = (0, 0)) := hide (by unfold refN; rw [← hCt, hsg, hend])
          rw [hend] at hcut
          have HCUT := hide hcut
          clear hcut hsg hsn hend hp hpre hT hU hv hev hM hC hCt hDt hD hN hNt zC hnm hnum hds
          go_enter Tryz.func118, Tryz.ntmps118
          go_wp2_with (first | (go_at_call 113; with_reducible refine (HCUT.out _).mono ?_; rintro e w1 ⟨rfl, hb1⟩; have HB1 := hide hb1; clear hb1) | (go_at_call 122; with_reducible refine (HPRE.out _).mono ?_; rintro e wp ⟨rfl, hwp⟩; obtain rfl := hwp) | (at_lookup; refine wpList_sm_look rfl _ _ rfl b 16 nameN rfl (HM.out.kept HB1.out) C HCS.out rfl ?_; rw [HNM.out]) | (go_at_call 146; with_reducible refine (HNUM.out _ HB1.out).mono ?_; rintro e w2 ⟨rfl, hb2⟩; have HB2 := hide (HB1.out.trans (hb2.mono HB1.out.size)); clear hb2))
          go_ret2
          exact ⟨by rw [HR.out]; rfl, HB2.out⟩
      | some x =>
        rw [hsn] at hsg
        rw [hsn] at hnum
        simp only [entV] at hnum
        have HNUM := hide hnum
        cases hend : hasC 59 (R.data.toList.take 9) with
        | false =>
          have HR : Hid (refN R.data.toList = (0, 0)) := hide (by unfold refN; rw [← hCt, hsg, hend])
          rw [hend] at hcut
          have HCUT := hide hcut
          clear hcut hsg hsn hend hp hpre hT hU hv hev hM hC hCt hDt hD hN hNt zC hnm hnum hds
          go_enter Tryz.func118, Tryz.ntmps118
          go_wp2_with (first | (go_at_call 113; with_reducible refine (HCUT.out _).mono ?_; rintro e w1 ⟨rfl, hb1⟩; have HB1 := hide hb1; clear hb1) | (go_at_call 122; with_reducible refine (HPRE.out _).mono ?_; rintro e wp ⟨rfl, hwp⟩; obtain rfl := hwp) | (at_lookup; refine wpList_sm_look rfl _ _ rfl b 16 nameN rfl (HM.out.kept HB1.out) C HCS.out rfl ?_; rw [HNM.out]) | (go_at_call 146; with_reducible refine (HNUM.out _ HB1.out).mono ?_; rintro e w2 ⟨rfl, hb2⟩; have HB2 := hide (HB1.out.trans (hb2.mono HB1.out.size)); clear hb2))
          go_ret2
          exact ⟨by rw [HR.out]; rfl, HB2.out⟩
        | true =>
          have HR : Hid (refN R.data.toList = (x, C.size + 1)) := hide (by unfold refN; rw [← hCt, hsg, hend]; simp only [toList_length])
          rw [hend] at hcut
          have HCUT := hide hcut
          clear hcut hsg hsn hend hp hpre hT hU hv hev hM hC hCt hDt hD hN hNt zC hnm hnum hds
          go_enter Tryz.func118, Tryz.ntmps118
          go_wp2_with (first | (go_at_call 113; with_reducible refine (HCUT.out _).mono ?_; rintro e w1 ⟨rfl, hb1⟩; have HB1 := hide hb1; clear hb1) | (go_at_call 122; with_reducible refine (HPRE.out _).mono ?_; rintro e wp ⟨rfl, hwp⟩; obtain rfl := hwp) | (at_lookup; refine wpList_sm_look rfl _ _ rfl b 16 nameN rfl (HM.out.kept HB1.out) C HCS.out rfl ?_; rw [HNM.out]) | (go_at_call 146; with_reducible refine (HNUM.out _ HB1.out).mono ?_; rintro e w2 ⟨rfl, hb2⟩; have HB2 := hide (HB1.out.trans (hb2.mono HB1.out.size)); clear hb2))
          go_ret2
          exact ⟨by rw [HR.out]; rfl, HB2.out⟩
  · have m1 : decide ((R.size : Int) < 9) = false := decide_eq_false (by omega)
    have mn : min (R.size : Int) 9 = 9 := by omega
    have m4 : (9 : Int) ≤ R.size := by omega
    obtain ⟨N, hN⟩ : ∃ N, N = R.extract 0 9 := ⟨_, rfl⟩
    have hNt : N.data.toList = R.data.toList.take 9 := by rw [hN, extract_list, List.drop_zero]
    have hcut := fun w1 => strCut_any N 59 w1 (by rw [← toList_length, hNt]; exact Nat.le_trans (List.length_take_le _ _) (by decide))
    simp only [cutV] at hcut
    rw [hNt, ← hC, hN] at hcut
    cases hp : Lib.hasPrefix C.data.toList [35]
    · have HP : Hid (Lib.hasPrefix C.data.toList [35] = false) := hide hp
      rw [hp] at hpre
      have HPRE := hide hpre
      have hsg : sgn C.data.toList = nameN C.data.toList := by unfold sgn; rw [hp, if_neg (by decide)]
      cases hsn : nameN C.data.toList with
      | none =>
        rw [hsn] at hsg
        have HNM := hide hsn
        cases hend : hasC 59 (R.data.toList.take 9) with
        | false =>
          have HR : Hid (refN R.data.toList = (0, 0)) := hide (by unfold refN; rw [← hCt, hsg, hend])
          rw [hend] at hcut
          have HCUT := hide hcut
          clear hcut hsg hsn hend hp hpre hT hU hv hev hM hC hCt hDt hD hN hNt zC
          go_enter Tryz.func118, Tryz.ntmps118
          go_wp2_with (first | (go_at_call 113; with_reducible refine (HCUT.out _).mono ?_; rintro e w1 ⟨rfl, hb1⟩; have HB1 := hide hb1; clear hb1) | (go_at_call 122; with_reducible refine (HPRE.out _).mono ?_; rintro e wp ⟨rfl, hwp⟩; obtain rfl := hwp) | (at_lookup; refine wpList_sm_look rfl _ _ rfl b 16 nameN rfl (HM.out.kept HB1.out) C HCS.out rfl ?_; rw [HNM.out]))
          go_ret2
          exact ⟨by rw [HR.out]; rfl, HB1.out⟩
        | true =>
          have HR : Hid (refN R.data.toList = (0, 0)) := hide (by unfold refN; rw [← hCt, hsg, hend])
          rw [hend] at hcut
          have HCUT := hide hcut
          clear hcut hsg hsn hend hp hpre hT hU hv hev hM hC hCt hDt hD hN hNt zC
          go_enter Tryz.func118, Tryz.ntmps118
          go_wp2_with (first | (go_at_call 113; with_reducible refine (HCUT.out _).mono ?_; rintro e w1 ⟨rfl, hb1⟩; have HB1 := hide hb1; clear hb1) | (go_at_call 122; with_reducible refine (HPRE.out _).mono ?_; rintro e wp ⟨rfl, hwp⟩; obtain rfl := hwp) | (at_lookup; refine wpList_sm_look rfl _ _ rfl b 16 nameN rfl (HM.out.kept HB1.out) C HCS.out rfl ?_; rw [HNM.out]))
          go_ret2
          exact ⟨by rw [HR.out]; rfl, HB1.out⟩
      | some x =>
        rw [hsn] at hsg
        have HNM := hide hsn
        cases hend : hasC 59 (R.data.toList.take 9) with
        | false =>
          have HR : Hid (refN R.data.toList = (0, 0)) := hide (by unfold refN; rw [← hCt, hsg, hend])
          rw [hend] at hcut
          have HCUT := hide hcut
          clear hcut hsg hsn hend hp hpre hT hU hv hev hM hC hCt hDt hD hN hNt zC
          go_enter Tryz.func118, Tryz.ntmps118
          go_wp2_with (first | (go_at_call 113; with_reducible refine (HCUT.out _).mono ?_; rintro e w1 ⟨rfl, hb1⟩; have HB1 := hide hb1; clear hb1) | (go_at_call 122; with_reducible refine (HPRE.out _).mono ?_; rintro e wp ⟨rfl, hwp⟩; obtain rfl := hwp) | (at_lookup; refine wpList_sm_look rfl _ _ rfl b 16 nameN rfl (HM.out.kept HB1.out) C HCS.out rfl ?_; rw [HNM.out]))
          go_ret2
          exact ⟨by rw [HR.out]; rfl, HB1.out⟩
        | true =>
          have HR : Hid (refN R.data.toList = (x, C.size + 1)) := hide (by unfold refN; rw [← hCt, hsg, hend]; simp only [toList_length])
          rw [hend] at hcut
          have HCUT := hide hcut
          clear hcut hsg hsn hend hp hpre hT hU hv hev hM hC hCt hDt hD hN hNt zC
          go_enter Tryz.func118, Tryz.ntmps118
          go_wp2_with (first | (go_at_call 113; with_reducible refine (HCUT.out _).mono ?_; rintro e w1 ⟨rfl, hb1⟩; have HB1 := hide hb1; clear hb1) | (go_at_call 122; with_reducible refine (HPRE.out _).mono ?_; rintro e wp ⟨rfl, hwp⟩; obtain rfl := hwp) | (at_lookup; refine wpList_sm_look rfl _ _ rfl b 16 nameN rfl (HM.out.kept HB1.out) C HCS.out rfl ?_; rw [HNM.out]))
          go_ret2
          exact ⟨by rw [HR.out]; rfl, HB1.out⟩
    · have HP : Hid (Lib.hasPrefix C.data.toList [35] = true) := hide hp
      rw [hp] at hpre
      have HPRE := hide hpre
      obtain ⟨nm, hnm⟩ : ∃ nm, nameN C.data.toList = nm := ⟨_, rfl⟩
      have HNM := hide hnm
      have hsg : sgn C.data.toList = byN D.data.toList := by unfold sgn; rw [hp, if_pos rfl, hDt]
      have hds : D.size ≤ 8 := dig_size hp hDt (by rw [← hCt] at zC; rw [toList_length] at zC; exact zC)
      have hnum := fun w1 (hb : Below w.heap.size w w1) => byNumber_any D ev w1 hds (hT.below hb hT.lt) (tabs_kept hU hb) ((hb.cell (p := ⟨1, 0, none⟩) (World.block_lt_of_cell? _ _ hv)).trans hv) hev
      cases hsn : byN D.data.toList with
      | none =>
        rw [hsn] at hsg
        rw [hsn] at hnum
        simp only [entV] at hnum
        have HNUM := hide hnum
        cases hend : hasC 59 (R.data.toList.take 9) with
        | false =>
          have HR : Hid (refN R.data.toList = (0, 0)) := hide (by unfold refN; rw [← hCt, hsg, hend])
          rw [hend] at hcut
          have HCUT := hide hcut
          clear hcut hsg hsn hend hp hpre hT hU hv hev hM hC hCt hDt hD hN hNt zC hnm hnum hds
          go_enter Tryz.func118, Tryz.ntmps118
          go_wp2_with (first | (go_at_call 113; with_reducible refine (HCUT.out _).mono ?_; rintro e w1 ⟨rfl, hb1⟩; have HB1 := hide hb1; clear hb1) | (go_at_call 122; with_reducible refine (HPRE.out _).mono ?_; rintro e wp ⟨rfl, hwp⟩; obtain rfl := hwp) | (at_lookup; refine wpList_sm_look rfl _ _ rfl b 16 nameN rfl (HM.out.kept HB1.out) C HCS.out rfl ?_; rw [HNM.out]) | (go_at_call 146; with_reducible refine (HNUM.out _ HB1.out).mono ?_; rintro e w2 ⟨rfl, hb2⟩; have HB2 := hide (HB1.out.trans (hb2.mono HB1.out.size)); clear hb2))
          go_ret2
          exact ⟨by rw [HR.out]; rfl, HB2.out⟩
        | true =>
          have HR : Hid (refN R.data.toList = (0, 0)) := hide (by unfold refN; rw [← hCt, hsg, hend])
          rw [hend] at hcut
          have HCUT := hide hcut
          clear hcut hsg hsn hend hp hpre hT hU hv hev hM hC hCt hDt hD hN hNt zC hnm hnum hds
          go_enter Tryz.func118, Tryz.ntmps118
          go_wp2_with (first | (go_at_call 113; with_reducible refine (HCUT.out _).mono ?_; rintro e w1 ⟨rfl, hb1⟩; have HB1 := hide hb1; clear hb1) | (go_at_call 122; with_reducible refine (HPRE.out _).mono ?_; rintro e wp ⟨rfl, hwp⟩; obtain rfl := hwp) | (at_lookup; refine wpList_sm_look rfl _ _ rfl b 16 nameN rfl (HM.out.kept HB1.out) C HCS.out rfl ?_; rw [HNM.out]) | (go_at_call 146; with_reducible refine (HNUM.out _ HB1.out).mono ?_; rintro e w2 ⟨rfl, hb2⟩; have HB2 := hide (HB1.out.trans (hb2.mono HB1.out.size)); clear hb2))
          go_ret2
          exact ⟨by rw [HR.out]; rfl, HB2.out⟩
      | some x =>
        rw [hsn] at hsg
        rw [hsn] at hnum
        simp only [entV] at hnum
        have HNUM := hide hnum
        cases hend : hasC 59 (R.data.toList.take 9) with
        | false =>
          have HR : Hid (refN R.data.toList = (0, 0)) := hide (by unfold refN; rw [← hCt, hsg, hend])
          rw [hend] at hcut
          have HCUT := hide hcut
          clear hcut hsg hsn hend hp hpre hT hU hv hev hM hC hCt hDt hD hN hNt zC hnm hnum hds
          go_enter Tryz.func118, Tryz.ntmps118
          go_wp2_with (first | (go_at_call 113; with_reducible refine (HCUT.out _).mono ?_; rintro e w1 ⟨rfl, hb1⟩; have HB1 := hide hb1; clear hb1) | (go_at_call 122; with_reducible refine (HPRE.out _).mono ?_; rintro e wp ⟨rfl, hwp⟩; obtain rfl := hwp) | (at_lookup; refine wpList_sm_look rfl _ _ rfl b 16 nameN rfl (HM.out.kept HB1.out) C HCS.out rfl ?_; rw [HNM.out]) | (go_at_call 146; with_reducible refine (HNUM.out _ HB1.out).mono ?_; rintro e w2 ⟨rfl, hb2⟩; have HB2 := hide (HB1.out.trans (hb2.mono HB1.out.size)); clear hb2))
          go_ret2
          exact ⟨by rw [HR.out]; rfl, HB2.out⟩
        | true =>
          have HR : Hid (refN R.data.toList = (x, C.size + 1)) := hide (by unfold refN; rw [← hCt, hsg, hend]; simp only [toList_length])
          rw [hend] at hcut
          have HCUT := hide hcut
          clear hcut hsg hsn hend hp hpre hT hU hv hev hM hC hCt hDt hD hN hNt zC hnm hnum hds
          go_enter Tryz.func118, Tryz.ntmps118
          go_wp2_with (first | (go_at_call 113; with_reducible refine (HCUT.out _).mono ?_; rintro e w1 ⟨rfl, hb1⟩; have HB1 := hide hb1; clear hb1) | (go_at_call 122; with_reducible refine (HPRE.out _).mono ?_; rintro e wp ⟨rfl, hwp⟩; obtain rfl := hwp) | (at_lookup; refine wpList_sm_look rfl _ _ rfl b 16 nameN rfl (HM.out.kept HB1.out) C HCS.out rfl ?_; rw [HNM.out]) | (go_at_call 146; with_reducible refine (HNUM.out _ HB1.out).mono ?_; rintro e w2 ⟨rfl, hb2⟩; have HB2 := hide (HB1.out.trans (hb2.mono HB1.out.size)); clear hb2))
          go_ret2
          exact ⟨by rw [HR.out]; rfl, HB2.out⟩
end Go.Proofs.YtiejmkjpgjbodaaGreatDoor

namespace Go.Proofs.YtiejmkjpgjbodaaGreatDoor
open Go.RowKit
set_option linter.unusedVariables false
set_option linter.unusedSimpArgs false
def szOfS : Value → Nat
  | .string t => t.size
  | _ => 0
end Go.Proofs.YtiejmkjpgjbodaaGreatDoor

namespace Go.Proofs.YtiejmkjpgjbodaaGreatDoor
open Go.RowKit
set_option linter.unusedVariables false
set_option linter.unusedSimpArgs false
theorem bldSize : (Tryz.prog.info? 78).map (·.size) = some 2 := by kernel_rfl
theorem bldLies : liesAt Tryz.prog Tryz.prog.depth 78 (2 / Tryz.prog.cellsOf 78) 0 78 1 = true := by kernel_rfl
def Bld (B b : Nat) (l : List UInt8) (W0 w : World) : Prop := Lib.IsBuilder 78 5 B b (cellsOf l) w ∧ Below B W0 w ∧ B ≤ w.heap.size
set_option maxRecDepth 100000 in
set_option maxHeartbeats 1000000 in
theorem copyCheck_used (b : Nat) (w : World) (h0 : w.cell? ⟨b, 0, none⟩ = some (.pointer (some ⟨b, 0, none⟩))) :
    Calls Tryz.prog 103 #[.pointer (some ⟨b, 0, none⟩)] w fun e w' => e = .returned (.tuple #[]) ∧ w = w' := by
  obtain ⟨j, hj, _⟩ := Option.map_eq_some_iff.1 bldSize
  have hne := fun w : World => Lib.run_neq_ptr_same (P := Tryz.prog) w ⟨b, 0, none⟩ Tryz.underlying76 hj
  go_enter Tryz.func103, Tryz.ntmps103
  go_wp2
  go_end0
  exact ⟨rfl, rfl⟩
set_option maxRecDepth 100000 in
set_option maxHeartbeats 1000000 in
theorem copyCheck_fresh (b : Nat) (w : World) (h0 : w.cell? ⟨b, 0, none⟩ = some (.pointer none)) (hsh : w.shape? b = some (78, 2)) (hfz : w.frozen? ⟨b, 0, none⟩ = false) :
    Calls Tryz.prog 103 #[.pointer (some ⟨b, 0, none⟩)] w fun e w' => e = .returned (.tuple #[]) ∧ w.setCell ⟨b, 0, none⟩ (.pointer (some ⟨b, 0, none⟩)) = w' := by
  obtain ⟨j, hj, hjs⟩ := Option.map_eq_some_iff.1 bldSize
  have c1 := Lib.run_to_unsafe (P := Tryz.prog) w ⟨b, 0, none⟩ Tryz.underlying76 Tryz.underlying153 hj (by rw [hjs]; decide) hsh (Nat.zero_lt_succ 1)
  have c2 := Lib.run_from_unsafe (P := Tryz.prog) w ⟨b, 0, none⟩ Tryz.underlying153 Tryz.underlying76 hj hsh bldLies
  have ce := fun w : World => run_callFunc_extern (P := Tryz.prog) (w := w) (args := #[Value.pointer (some ⟨b, 0, none⟩)]) Tryz.func140 (by kernel_rfl) (by kernel_rfl) (by kernel_rfl) (e := Extern.AbiNoEscape.same) (by kernel_rfl)
  have cn := fun w : World => Lib.run_noEscape (P := Tryz.prog) (w := w) (Value.pointer (some ⟨b, 0, none⟩))
  go_enter Tryz.func103, Tryz.ntmps103
  go_wp2
  go_end0
  exact ⟨rfl, rfl⟩
theorem copyCheck_any (B b : Nat) (bs : List Value) (w : World) (h : Lib.IsBuilder 78 5 B b bs w) :
    Calls Tryz.prog 103 #[.pointer (some ⟨b, 0, none⟩)] w fun e w' => e = .returned (.tuple #[]) ∧ (Lib.BuilderAt 78 5 B b (.pointer (some ⟨b, 0, none⟩)) bs w' ∧ Below B w w') := by
  rcases h with h | h
  · refine (copyCheck_fresh b w h.cell0 h.shape h.frozen0).mono ?_
    rintro e w' ⟨rfl, rfl⟩
    exact ⟨rfl, h.used _, (Below.refl B w).setCell (p := ⟨b, 0, none⟩) h.1 _⟩
  · refine (copyCheck_used b w h.cell0).mono ?_
    rintro e w' ⟨rfl, rfl⟩
    exact ⟨rfl, h, Below.refl B _⟩
set_option maxRecDepth 100000 in
set_option maxHeartbeats 1000000 in
theorem writeString_any (B b : Nat) (l : List UInt8) (s : ByteArray) (W0 w : World) (h : Bld B b l W0 w) (hlen : l.length + s.size ≤ 140737488355328) :
    Calls Tryz.prog 64 #[.pointer (some ⟨b, 0, none⟩), .string s] w fun e w' => e = .returned (.tuple #[.int .i64 s.size, .nilIface]) ∧ Bld B b (l ++ s.data.toList) W0 w' := by
  obtain ⟨h, hbel, hBw⟩ := h
  obtain ⟨i0, hi, hz0, hz1, hz2⟩ := info_parts info_u8
  have HBL := hide hbel
  clear hbel
  go_enter Tryz.func64, Tryz.ntmps64
  go_wp2_with fail
  refine (copyCheck_any B b (cellsOf l) _ h).mono ?_
  rintro e w1 ⟨rfl, h1, hb1⟩
  obtain ⟨hB, v, hbk, hown, hne⟩ := h1
  have c1 : w1.cell? ⟨b, 1, none⟩ = some v := by rw [Lib.cell_of_heap hbk]; rfl
  have hlt : b < w1.heap.size := lt_of_block hbk
  have hl1 : (cellsOf l).length = l.length := cellsOf_length l
  have HBK := hide hbk
  have HOWN := hide hown
  have HNE := hide hne
  have HB1 := hide hb1
  have hsz1 := hb1.size
  have HI := hide hi
  have HZ0 := hide hz0
  have HZ1 := hide hz1
  have HZ2 := hide hz2
  have HL1 := hide hl1
  clear hbk hown hne hb1 hi hz0 hz1 hz2 h
  go_wp2_with (refine Lib.wpList_append_own_string _ rfl _ _ 56 9 rfl B 5 i0 Tryz.underlying56 Tryz.underlying9 HI.out HZ0.out HZ1.out HZ2.out v (cellsOf l).length (cellsOf l) rfl HOWN.out s rfl (by rw [HL1.out]; unfold maxLen; omega) (by rw [HL1.out]; omega) (by omega) ?_
               intro v' w2 hown' hgrow _
               obtain ⟨ao, n', cap, rfl⟩ : ∃ ao n' cap, v' = .slice ao n' cap := by
                 rcases hown'.2 with ⟨hv, _⟩ | ⟨g, cap, cur, hv, _⟩
                 · exact ⟨_, _, _, hv⟩
                 · exact ⟨_, _, _, hv⟩
               have hb2 : w2.heap[b]? = some (.cells #[.pointer (some ⟨b, 0, none⟩), v] 78 (0, 0)) := by
                 rw [hgrow.block b hlt (fun e => HNE.out e.symm)]
                 exact HBK.out
               have d1 : w2.cell? ⟨b, 1, none⟩ = some v := by rw [Lib.cell_of_heap hb2]; rfl
               have f1 : w2.frozen? ⟨b, 1, none⟩ = false := Lib.frozen_of_heap hb2 1
               have HO2 := hide hown'
               have HG2 := hide hgrow
               have HB2 := hide hb2
               clear hown' hgrow hb2)
  go_ret2
  have hb3 : Below B w w2 := HB1.out.grown HG2.out (by omega) (fun k hk => (HOWN.out.lt k hk).1)
  refine ⟨rfl, .inr ?_, (HBL.out.trans hb3).setCell (p := ⟨b, 1, none⟩) hB _, ?_⟩
  · refine Lib.BuilderAt.put (T := 78) (e := 5) hB HB2.out (bs' := cellsOf (l ++ s.data.toList)) ?_ (by decide)
    have ho := HO2.out
    have e1 : cellsOf (l ++ s.data.toList) = cellsOf l ++ Lib.strCells s := by rw [cellsOf_str, cellsOf, List.map_append]; rfl
    rw [e1, List.length_append, Lib.strCells_length]
    exact ho
  · have := hb3.size
    simp [World.setCell]
    omega
theorem Bld.string {B b : Nat} {l : List UInt8} {W0 w : World} (h : Bld B b l W0 w) :
    Calls Tryz.prog 57 #[.pointer (some ⟨b, 0, none⟩)] w fun e w' => e = .returned (.string (str l)) ∧ Below B W0 w' :=
  (Tryz.Builder_String_any B b l w h.1 h.2.2).mono fun _ _ ⟨he, hb⟩ => ⟨he, h.2.1.trans hb⟩
theorem Bld.kept {B b : Nat} {l : List UInt8} {W0 w w' : World} (h : Bld B b l W0 w) (hb : Below w.heap.size w w') : Bld B b l W0 w' := by
  obtain ⟨h1, h2, h3⟩ := h
  refine ⟨?_, h2.trans (hb.mono h3), Nat.le_trans h3 hb.size⟩
  have key : ∀ p, Lib.BuilderAt 78 5 B b p (cellsOf l) w → Lib.BuilderAt 78 5 B b p (cellsOf l) w' := by
    intro p h
    have hlt := h.lt
    obtain ⟨hB, v, hbk, hown, hne⟩ := h
    exact ⟨hB, v, (hb.block b hlt).trans hbk, hown.kept (row := none) ⟨hb.os, hb.tape, hb.output, hb.size, fun k hk _ => hb.block k hk⟩ (by cases hv : v.ownBlock <;> simp), hne⟩
  rcases h1 with h | h
  · exact .inl (key _ h)
  · exact .inr (key _ h)
theorem Bld.new {B : Nat} {W0 w : World} (hb : Below B W0 w) (hB : B ≤ w.heap.size) : Bld B w.heap.size [] W0 (w.alloc (.cells #[.pointer none, .slice none 0 0] 78)) :=
  ⟨.inl ⟨hB, .slice none 0 0, heap_alloc_new w _, World.ownsRow_nil _ B _ 1, by simp [Value.ownBlock]⟩, hb.alloc hB _, by simp; omega⟩
end Go.Proofs.YtiejmkjpgjbodaaGreatDoor

namespace Go.Proofs.YtiejmkjpgjbodaaGreatDoor
open Go.RowKit
set_option linter.unusedVariables false
set_option linter.unusedSimpArgs false
set_option maxRecDepth 100000
end Go.Proofs.YtiejmkjpgjbodaaGreatDoor

namespace Go.Proofs.YtiejmkjpgjbodaaGreatDoor
open Go.RowKit
set_option linter.unusedVariables false
set_option linter.unusedSimpArgs false
set_option maxRecDepth 100000
def KM (w w' : World) : Prop := ∀ (m : Nat) es c, w.heap[m]? = some (Obj.map es c) → w'.heap[m]? = some (Obj.map es c)
theorem KM.refl (w : World) : KM w w := fun _ _ _ h => h
theorem KM.trans {a b c : World} (h : KM a b) (k : KM b c) : KM a c := fun m es x hm => k m es x (h m es x hm)
theorem KM.alloc (w : World) (o : Obj) : KM w (w.alloc o) := fun m es x hm => (Below.heap_alloc w o m (Array.getElem?_eq_some_iff.1 hm).1).trans hm
theorem KM.below {w w' : World} (h : Below w.heap.size w w') : KM w w' := fun m es x hm => (h.block m (Array.getElem?_eq_some_iff.1 hm).1).trans hm
theorem KM.set {w : World} {b : Nat} {cs : Array Value} {t : TypeId} {fr : Nat × Nat} (h : w.heap[b]? = some (.cells cs t fr)) (i : Nat) (v : Value) : KM w (w.setCell ⟨b, i, none⟩ v) := fun m es x hm => by
  have hne : m ≠ b := by rintro rfl; rw [h] at hm; cases hm
  exact (Below.heap_setCell w _ v m hne).trans hm
theorem KM.own {w w' : World} {B n : Nat} {e : TypeId} {v : Value} {xs : List Value} (h : w.ownsRow B e 1 v n xs) (hg : w.grownBy w' v.ownBlock) : KM w w' := fun m es x hm => by
  refine (hg.block m (Array.getElem?_eq_some_iff.1 hm).1 (fun he => ?_)).trans hm
  rcases h.2 with ⟨rfl, _⟩ | ⟨g, cap, cur, rfl, _, hh, _⟩
  · simp [Value.ownBlock] at he
  · have e1 : g = m := by simpa [Value.ownBlock] using he.symm
    subst e1
    rw [hh] at hm; cases hm
theorem copyCheckM_any (B b : Nat) (bs : List Value) (w : World) (h : Lib.IsBuilder 78 5 B b bs w) :
    Calls Tryz.prog 103 #[.pointer (some ⟨b, 0, none⟩)] w fun e w' => e = .returned (.tuple #[]) ∧ Lib.BuilderAt 78 5 B b (.pointer (some ⟨b, 0, none⟩)) bs w' ∧ Below B w w' ∧ KM w w' := by
  rcases h with h | h
  · obtain ⟨hB, v, hbk, ho, hne⟩ := id h
    refine (copyCheck_fresh b w h.cell0 h.shape h.frozen0).mono ?_
    rintro e w' ⟨rfl, rfl⟩
    exact ⟨rfl, h.used _, (Below.refl B w).setCell (p := ⟨b, 0, none⟩) h.1 _, KM.set hbk _ _⟩
  · refine (copyCheck_used b w h.cell0).mono ?_
    rintro e w' ⟨rfl, rfl⟩
    exact ⟨rfl, h, Below.refl B _, KM.refl _⟩
set_option maxHeartbeats 1000000 in
theorem writeStringM_any (B b : Nat) (l : List UInt8) (s : ByteArray) (W0 w : World) (h : Bld B b l W0 w) (hlen : l.length + s.size ≤ 140737488355328) :
    Calls Tryz.prog 64 #[.pointer (some ⟨b, 0, none⟩), .string s] w fun e w' => e = .returned (.tuple #[.int .i64 s.size, .nilIface]) ∧ Bld B b (l ++ s.data.toList) W0 w' ∧ KM w w' := by
  obtain ⟨h, hbel, hBw⟩ := h
  obtain ⟨i0, hi, hz0, hz1, hz2⟩ := info_parts info_u8
  have HBL := hide hbel
  clear hbel
  go_enter Tryz.func64, Tryz.ntmps64
  go_wp2_with fail
  refine (copyCheckM_any B b (cellsOf l) _ h).mono ?_
  rintro e w1 ⟨rfl, h1, hb1, hk1⟩
  have HK1 := hide hk1
  clear hk1
  obtain ⟨hB, v, hbk, hown, hne⟩ := h1
  have c1 : w1.cell? ⟨b, 1, none⟩ = some v := by rw [Lib.cell_of_heap hbk]; rfl
  have hlt : b < w1.heap.size := lt_of_block hbk
  have hl1 : (cellsOf l).length = l.length := cellsOf_length l
  have HBK := hide hbk
  have HOWN := hide hown
  have HNE := hide hne
  have HB1 := hide hb1
  have hsz1 := hb1.size
  have HI := hide hi
  have HZ0 := hide hz0
  have HZ1 := hide hz1
  have HZ2 := hide hz2
  have HL1 := hide hl1
  clear hbk hown hne hb1 hi hz0 hz1 hz2 h
  go_wp2_with (refine Lib.wpList_append_own_string _ rfl _ _ 56 9 rfl B 5 i0 Tryz.underlying56 Tryz.underlying9 HI.out HZ0.out HZ1.out HZ2.out v (cellsOf l).length (cellsOf l) rfl HOWN.out s rfl (by rw [HL1.out]; unfold maxLen; omega) (by rw [HL1.out]; omega) (by omega) ?_
               intro v' w2 hown' hgrow _
               obtain ⟨ao, n', cap, rfl⟩ : ∃ ao n' cap, v' = .slice ao n' cap := by
                 rcases hown'.2 with ⟨hv, _⟩ | ⟨g, cap, cur, hv, _⟩
                 · exact ⟨_, _, _, hv⟩
                 · exact ⟨_, _, _, hv⟩
               have hb2 : w2.heap[b]? = some (.cells #[.pointer (some ⟨b, 0, none⟩), v] 78 (0, 0)) := by
                 rw [hgrow.block b hlt (fun e => HNE.out e.symm)]
                 exact HBK.out
               have d1 : w2.cell? ⟨b, 1, none⟩ = some v := by rw [Lib.cell_of_heap hb2]; rfl
               have f1 : w2.frozen? ⟨b, 1, none⟩ = false := Lib.frozen_of_heap hb2 1
               have HKM := hide (HK1.out.trans (KM.own HOWN.out hgrow))
               have HO2 := hide hown'
               have HG2 := hide hgrow
               have HB2 := hide hb2
               clear hown' hgrow hb2)
  go_ret2
  have hb3 : Below B w w2 := HB1.out.grown HG2.out (by omega) (fun k hk => (HOWN.out.lt k hk).1)
  refine ⟨rfl, ⟨.inr ?_, (HBL.out.trans hb3).setCell (p := ⟨b, 1, none⟩) hB _, ?_⟩, HKM.out.trans (KM.set HB2.out _ _)⟩
  · refine Lib.BuilderAt.put (T := 78) (e := 5) hB HB2.out (bs' := cellsOf (l ++ s.data.toList)) ?_ (by decide)
    have ho := HO2.out
    have e1 : cellsOf (l ++ s.data.toList) = cellsOf l ++ Lib.strCells s := by rw [cellsOf_str, cellsOf, List.map_append]; rfl
    rw [e1, List.length_append, Lib.strCells_length]
    exact ho
  · have := hb3.size
    simp [World.setCell]
    omega
end Go.Proofs.YtiejmkjpgjbodaaGreatDoor

namespace Go.Proofs.YtiejmkjpgjbodaaGreatDoor
open Go.RowKit
set_option linter.unusedVariables false
set_option linter.unusedSimpArgs false
set_option maxRecDepth 100000
theorem SMapN.km {w w' : World} {b n : Nat} {f : List UInt8 → Option Int} (h : SMapN w b n f) (hk : KM w w') : SMapN w' b n f := by
  obtain ⟨D, ⟨es, c, h1, h2, h3, h4⟩, h5⟩ := h
  exact ⟨D, ⟨es, c, hk b es c h1, h2, h3, h4⟩, h5⟩
set_option maxHeartbeats 2000000 in
theorem writeRuneM_any (B b : Nat) (l : List UInt8) (r : Int) (h0 : 0 ≤ r) (h1r : r ≤ 1114111) (W0 w : World) (h : Bld B b l W0 w) (hlen : l.length + 4 ≤ 140737488355328) :
    Calls Tryz.prog 119 #[.pointer (some ⟨b, 0, none⟩), .int .i32 r] w fun e w' => (∃ n, e = .returned (.tuple #[.int .i64 n, .nilIface])) ∧ Bld B b (l ++ runeL r) W0 w' ∧ KM w w' := by
  obtain ⟨h, hbel, hBw⟩ := h
  have HBL := hide hbel
  clear hbel
  go_enter Tryz.func119, Tryz.ntmps119
  go_wp2_with fail
  refine (copyCheckM_any B b (cellsOf l) _ h).mono ?_
  rintro e w1 ⟨rfl, h1, hb1, hk1⟩
  have HK1 := hide hk1
  clear hk1
  obtain ⟨hB, v, hbk, hown, hne⟩ := h1
  have c1 : w1.cell? ⟨b, 1, none⟩ = some v := by rw [Lib.cell_of_heap hbk]; rfl
  have hlt : b < w1.heap.size := lt_of_block hbk
  have hl1 : (cellsOf l).length = l.length := cellsOf_length l
  rw [hl1] at hown
  obtain ⟨A, cp, rfl⟩ : ∃ A cp, v = .slice A l.length cp := by
    rcases hown.2 with ⟨hv, hz⟩ | ⟨g, cap, cur, hv, _⟩
    · rw [hz]; exact ⟨_, _, hv⟩
    · exact ⟨_, _, hv⟩
  have HBK := hide hbk
  have HOWN := hide hown
  have HNE := hide hne
  have HB1 := hide hb1
  have hsz1 := hb1.size
  have HAR := hide (Tryz.utf8_AppendRune_plain B (.slice A l.length cp) l.length (cellsOf l) r (by omega) (by omega) w1 hown (by omega) (by omega))
  clear hbk hown hne hb1 h hl1
  go_wp2_with (go_at_call 147; refine HAR.out.mono ?_; rintro e w2 ⟨v', rfl, ho, o, hg⟩
               have e1 : Lib.runeCells r = cellsOf (runeL r) := (Lib.byteCells_encodeRune r).symm
               have e2 : (Lib.runeCells r).length = (runeL r).length := by rw [e1, cellsOf_length]
               rw [e2, e1] at ho
               obtain ⟨ao, cap, rfl⟩ : ∃ ao cap, v' = .slice ao (l.length + (runeL r).length) cap := by
                 rcases ho.2 with ⟨hv, hz⟩ | ⟨g, cap, cur, hv, _⟩
                 · rw [hz]; exact ⟨_, _, hv⟩
                 · exact ⟨_, _, hv⟩
               have hb2 : w2.heap[b]? = some (.cells #[.pointer (some ⟨b, 0, none⟩), .slice A l.length cp] 78 (0, 0)) := by
                 rw [hg.block b (Nat.lt_of_lt_of_le hlt ((Below.refl 0 w1).alloc (Nat.zero_le _) o).size) (fun e => HNE.out e.symm), Below.heap_alloc w1 o b hlt]
                 exact HBK.out
               have d1 : w2.cell? ⟨b, 1, none⟩ = some (.slice A l.length cp) := by rw [Lib.cell_of_heap hb2]; rfl
               have f1 : w2.frozen? ⟨b, 1, none⟩ = false := Lib.frozen_of_heap hb2 1
               obtain ⟨w3, hw3⟩ : ∃ w3, w3 = w2.setCell ⟨b, 1, none⟩ (.slice ao (l.length + (runeL r).length) cap) := ⟨_, rfl⟩
               have g1 : (w2.setCell ⟨b, 1, none⟩ (.slice ao (l.length + (runeL r).length) cap)).cell? ⟨b, 1, none⟩ = some (.slice ao (l.length + (runeL r).length) cap) := World.cell?_setCell_same _ _ _ d1
               have HKM := hide (HK1.out.trans ((KM.alloc w1 o).trans (KM.own (HOWN.out.alloc o) hg)))
               have HO2 := hide ho
               have HG2 : Hid (Below B w w2) := hide ((HB1.out.alloc (by omega) o).grown hg (Nat.le_trans (by omega) ((Below.refl 0 w1).alloc (Nat.zero_le _) o).size) (fun k hk => (HOWN.out.lt k hk).1))
               have HB2 := hide hb2
               clear ho hg hb2 e1 e2 hw3)
  go_ret2
  refine ⟨⟨_, rfl⟩, ⟨.inr ?_, (HBL.out.trans HG2.out).setCell (p := ⟨b, 1, none⟩) hB _, ?_⟩, HKM.out.trans (KM.set HB2.out _ _)⟩
  · refine Lib.BuilderAt.put (T := 78) (e := 5) hB HB2.out (bs' := cellsOf (l ++ runeL r)) ?_ (by decide)
    have ho := HO2.out
    have e1 : cellsOf (l ++ runeL r) = cellsOf l ++ cellsOf (runeL r) := by rw [cellsOf, List.map_append]; rfl
    rw [e1, List.length_append, cellsOf_length, cellsOf_length]
    exact ho
  · have := HG2.out.size
    simp [World.setCell]
    omega
end Go.Proofs.YtiejmkjpgjbodaaGreatDoor

namespace Go.Proofs.YtiejmkjpgjbodaaGreatDoor
open Go.RowKit
set_option linter.unusedVariables false
set_option linter.unusedSimpArgs false
set_option maxRecDepth 100000
def EnvE (w : World) : Prop := Tab w ∧ Lib.Utf8Tabs 4 5 w ∧ ∃ ev, w.cell? ⟨1, 0, none⟩ = some ev ∧ (ev = .nilIface ∨ ∃ te pe, ev = .iface te pe)
theorem EnvE.kept {w w' : World} (h : EnvE w) (hb : Below w.heap.size w w') : EnvE w' := by
  obtain ⟨h1, h2, ev, h3, h4⟩ := h
  exact ⟨h1.below hb h1.lt, tabs_kept h2 hb, ev, (hb.cell (p := ⟨1, 0, none⟩) (World.block_lt_of_cell? _ _ h3)).trans h3, h4⟩
def SignOK (c : Int) : Prop := 0 ≤ c ∧ c ≤ 1114111
theorem putN_ok {f : List UInt8 → Option Int} {k : List UInt8} {c : Int} (hf : ∀ l x, f l = some x → SignOK x) (hc : SignOK c) : ∀ l x, putN f k c l = some x → SignOK x := by
  intro l x h
  unfold putN at h
  split at h
  · injection h with h; rw [← h]; exact hc
  · exact hf l x h
theorem nameN_ok : ∀ l x, nameN l = some x → SignOK x := by
  unfold nameN
  repeat (refine putN_ok ?_ (by unfold SignOK; decide))
  intro l x h; cases h
theorem signN_ok (n : Nat) : SignOK (signN n) := by
  unfold signN SignOK
  split
  · decide
  · split
    · have := winR_range (UInt8.ofNat n); omega
    · omega
theorem numAt_ok {b m : Nat} {l : List UInt8} : ∀ x, numAt b m l = some x → SignOK x := by
  intro x h
  unfold numAt at h
  split at h
  · cases h
  · split at h
    · cases h
    · injection h with h; rw [← h]; exact signN_ok _
theorem sgn_ok {l : List UInt8} : ∀ x, sgn l = some x → SignOK x := by
  intro x h
  unfold sgn byN at h
  split at h
  · split at h <;> exact numAt_ok x h
  · exact nameN_ok _ x h
theorem refN_ok (l : List UInt8) : SignOK (refN l).1 ∧ (refN l).2 ≤ l.length := by
  unfold refN
  split
  · rename_i x h1 h2
    refine ⟨sgn_ok x h1, ?_⟩
    rcases cut_case 59 (l.take 9) with ⟨h3, h4, _⟩ | ⟨a, r, h3, _, h4, _⟩
    · have : hasC 59 (l.take 9) = false := by unfold hasC; simpa using h3
      rw [this] at h2; cases h2
    · have := congrArg List.length h3
      rw [List.length_append, List.length_cons, List.length_take] at this
      rw [h4]
      show a.length + 1 ≤ _
      omega
  · exact ⟨by unfold SignOK; decide, Nat.zero_le _⟩
def decE (l : List UInt8) : List UInt8 :=
  if h : hasC 38 l = true then
    beforeC 38 l ++ (if 0 < (refN (afterC 38 l)).2 then runeL (refN (afterC 38 l)).1 ++ decE ((afterC 38 l).drop (refN (afterC 38 l)).2) else 38 :: decE (afterC 38 l))
  else l
termination_by l.length
decreasing_by
  all_goals
    rcases cut_case 38 l with ⟨h3, _⟩ | ⟨a, r, h3, _, h4, h5⟩
    · exact absurd h (by unfold hasC; simpa using h3)
    · have := congrArg List.length h3
      rw [List.length_append, List.length_cons] at this
      rw [h5]
      first | (rw [List.length_drop]; omega) | omega
theorem decE_no {l : List UInt8} (h : hasC 38 l = false) : decE l = l := by rw [decE, dif_neg (by rw [h]; decide)]
theorem decE_yes {l : List UInt8} (h : hasC 38 l = true) : decE l = beforeC 38 l ++ (if 0 < (refN (afterC 38 l)).2 then runeL (refN (afterC 38 l)).1 ++ decE ((afterC 38 l).drop (refN (afterC 38 l)).2) else 38 :: decE (afterC 38 l)) := by rw [decE, dif_pos h]
theorem has_cut {c : UInt8} {l : List UInt8} (h : hasC c l = true) : l.length = (beforeC c l).length + 1 + (afterC c l).length := by
  rcases cut_case c l with ⟨h3, _⟩ | ⟨a, r, h3, _, h4, h5⟩
  · exact absurd h (by unfold hasC; simpa using h3)
  · have := congrArg List.length h3
    rw [List.length_append, List.length_cons] at this
    rw [h4, h5]; omega
theorem index_has (c : UInt8) (l : List UInt8) : decide (0 ≤ Lib.indexByte l c) = hasC c l := by
  rcases index_cut c l with ⟨h1, h2, _⟩ | ⟨o, h1, _, h2, _⟩
  · rw [h1]
    have : hasC c l = false := by unfold hasC; simpa using h2
    rw [this]; rfl
  · rw [h1]
    have : hasC c l = true := by unfold hasC; simpa using h2
    rw [this]; exact decide_eq_true (by omega)
set_option maxHeartbeats 4000000 in
theorem entDecode_any (s : ByteArray) (w : World) (hs : s.size ≤ 16777216) (hE : EnvE w) :
    Calls Tryz.prog 82 #[.string s] w fun e w' => e = .returned (.string (str (decE s.data.toList))) ∧ Below w.heap.size w w' := by
  have HC := hide (Tryz.strings_Contains_one s 38 w)
  rw [index_has] at HC
  cases hh : hasC 38 s.data.toList with
  | false =>
    have HR : Hid (decE s.data.toList = s.data.toList) := hide (decE_no hh)
    rw [hh] at HC
    clear hh hE
    go_enter Tryz.func82, Tryz.ntmps82
    go_wp2_with (go_at_call 116; refine HC.out.mono ?_; rintro e w1 ⟨rfl, hw⟩; obtain rfl := hw.symm)
    go_ret
    exact ⟨by rw [HR.out, str_of]; rfl, Below.refl _ _⟩
  | true =>
    rw [hh] at HC
    have HE := hide hE
    have KB : Hid (Below w.heap.size w (w.alloc (.cells #[.pointer none, .slice none 0 0] 78))) := hide ((Below.refl _ _).alloc (Nat.le_refl _) _)
    have HBD := hide (Bld.new (B := w.heap.size) (W0 := w) (Below.refl _ w) (Nat.le_refl _))
    clear hh hE
    go_enter Tryz.func82, Tryz.ntmps82
    go_wp2_with (first
      | (go_at_call 116; refine HC.out.mono ?_; rintro e w1 ⟨rfl, hw⟩; obtain rfl := hw.symm)
      | (go_at_call 117; refine (signs_any _).mono ?_; rintro e w2 ⟨rfl, hm2, hb2⟩; have HM2 := hide hm2; have HB2 := hide hb2; clear hm2 hb2))
    have HM2' : Hid (SMapN w2 (w.heap.size + 1) 16 nameN) := hide (by have := HM2.out; rwa [World.size_alloc] at this)
    go_loopw [0] (fun sv wr => ∃ (S : ByteArray) (acc : List UInt8), sv = .string S ∧ Hid (acc.length + 4 * S.size ≤ 4 * s.size) ∧ Hid (Bld w.heap.size w.heap.size acc w wr) ∧ Hid (SMapN wr (w.heap.size + 1) 16 nameN) ∧ Hid (acc ++ decE S.data.toList = decE s.data.toList)) (fun sv _ => szOfS sv)
    case atStart => exact ⟨s, [], rfl, hide (by simp), hide (HBD.out.kept HB2.out), HM2', hide rfl⟩
    case round =>
      obtain ⟨S, acc, rfl, HL, HB, HM, HG⟩ := hrel
      have hSz : S.size ≤ s.size := by have := HL.out; omega
      have hcut := fun w1 => strCut_any S 38 w1 (by omega)
      simp only [cutV] at hcut
      obtain ⟨A, hA⟩ : ∃ A, A = str (beforeC 38 S.data.toList) := ⟨_, rfl⟩
      obtain ⟨R, hR⟩ : ∃ R, R = str (afterC 38 S.data.toList) := ⟨_, rfl⟩
      rw [← hA, ← hR] at hcut
      have hAl : A.data.toList = beforeC 38 S.data.toList := by rw [hA, str_toList]
      have hRl : R.data.toList = afterC 38 S.data.toList := by rw [hR, str_toList]
      have hAs : A.size ≤ S.size := by rw [← toList_length, hAl, ← toList_length S]; exact (List.takeWhile_sublist _).length_le
      have HL1 : Hid (acc.length + A.size ≤ 140737488355328) := hide (by have := HL.out; omega)
      have tok1 : True := trivial
      cases hc : hasC 38 S.data.toList with
      | false =>
        rw [hc] at hcut
        have HCUT := hide hcut
        have HR : Hid (decE s.data.toList = acc ++ A.data.toList) := hide (by
          rw [← HG.out, decE_no hc, hAl]
          rcases cut_case 38 S.data.toList with ⟨_, h4, _⟩ | ⟨a, r, h3, _⟩
          · rw [h4]
          · exact absurd hc (by unfold hasC; rw [h3]; simp))
        clear hcut hc hA hR hAl hRl hAs hSz
        go_wp2_with (first
          | (go_at_call 113; with_reducible refine (HCUT.out _).mono ?_; rintro e w3 ⟨rfl, hb3⟩; have HB3 := hide (HB.out.kept hb3); have HM3 := hide (HM.out.kept hb3); clear hb3)
          | (go_at_call 64; have _t := tok1; refine (writeStringM_any _ _ acc A w _ HB3.out HL1.out).mono ?_; rintro e w4 ⟨rfl, hb4, hk4⟩; have HB4 := hide hb4; have HM4 := hide (HM3.out.km hk4); clear hb4 hk4 tok1)
          | (go_at_call 57; refine (HB4.out.string).mono ?_; rintro e w5 ⟨rfl, hb5⟩; have HB5 := hide hb5; clear hb5))
        go_ret
        exact ⟨by rw [HR.out]; rfl, HB5.out⟩
      | true =>
        rw [hc] at hcut
        have HCUT := hide hcut
        have hlen := has_cut hc
        rw [← hAl, ← hRl, toList_length, toList_length, toList_length] at hlen
        have hdec := decE_yes hc
        rw [← hAl, ← hRl] at hdec
        have hG := HG.out
        rw [hdec] at hG
        obtain ⟨hx, hnl⟩ := refN_ok R.data.toList
        rw [toList_length] at hnl
        have href := fun w1 (hm : SMapN w1 (w.heap.size + 1) 16 nameN) (he : EnvE w1) => reference_any R (w.heap.size + 1) he.2.2.choose w1 (by omega) hm he.1 he.2.1 he.2.2.choose_spec.1 he.2.2.choose_spec.2
        obtain ⟨⟨x, n⟩, hr⟩ : ∃ o, refN R.data.toList = o := ⟨_, rfl⟩
        rw [hr] at hx hnl href hG
        simp only [refV] at href
        simp only [] at hx hnl hG
        have HREF := hide href
        have HX := hide hx
        have hLL := HL.out
        by_cases hn : 0 < n
        · have t1 : decide ((n : Int) > 0) = true := decide_eq_true (by omega)
          have t2 : decide (0 < n) = true := decide_eq_true hn
          have k1 : (0 : Int) ≤ n := by omega
          have k2 : (n : Int) ≤ R.size := by omega
          rw [if_pos hn] at hG
          have hrl := (runeL_length x).2.1
          have hsz : (R.extract n R.size).size = R.size - n := by rw [ByteArray.size_extract]; omega
          have HL2 : Hid ((acc ++ A.data.toList).length + 4 ≤ 140737488355328) := hide (by rw [List.length_append, toList_length]; omega)
          have HLN : Hid (((acc ++ A.data.toList) ++ runeL x).length + 4 * (R.extract n R.size).size ≤ 4 * s.size) := hide (by rw [List.length_append, List.length_append, toList_length, hsz]; omega)
          have HGN : Hid (((acc ++ A.data.toList) ++ runeL x) ++ decE (R.extract n R.size).data.toList = decE s.data.toList) := hide (by rw [extract_end, ← hG]; simp)
          have HLT : Hid ((R.extract n R.size).size < S.size) := hide (by rw [hsz]; omega)
          clear hcut hc hA hR hAl hRl hAs hlen hdec hG hx hnl href hr hLL hn hrl hsz hSz
          go_wp2_with (first
            | (go_at_call 113; with_reducible refine (HCUT.out _).mono ?_; rintro e w3 ⟨rfl, hb3⟩; have HB3 := hide (HB.out.kept hb3); have HM3 := hide (HM.out.kept hb3); clear hb3)
            | (go_at_call 64; have _t := tok1; refine (writeStringM_any _ _ acc A w _ HB3.out HL1.out).mono ?_; rintro e w4 ⟨rfl, hb4, hk4⟩; have HB4 := hide hb4; have HM4 := hide (HM3.out.km hk4); clear hb4 hk4 tok1)
            | (go_at_call 118; refine (HREF.out _ HM4.out (HE.out.kept HB4.out.2.1)).mono ?_; rintro e w5 ⟨rfl, hb5⟩; have HB5 := hide (HB4.out.kept hb5); have HM5 := hide (HM4.out.kept hb5); clear hb5)
            | (go_at_call 119; refine (writeRuneM_any _ _ _ x HX.out.1 HX.out.2 w _ HB5.out HL2.out).mono ?_; rintro e w6 ⟨⟨m6, rfl⟩, hb6, hk6⟩; have HB6 := hide hb6; have HM6 := hide (HM5.out.km hk6); clear hb6 hk6))
          go_roundw
          case rel => exact ⟨_, _, rfl, HLN, HB6, HM6, HGN⟩
          case measure => exact HLT.out
        · have hn0 : n = 0 := by omega
          have t1 : decide ((n : Int) > 0) = false := decide_eq_false (by omega)
          have t2 : decide (0 < n) = false := decide_eq_false hn
          rw [if_neg hn] at hG
          have tok2 : True := trivial
          have HL2 : Hid ((acc ++ A.data.toList).length + (⟨#[38]⟩ : ByteArray).size ≤ 140737488355328) := hide (by rw [List.length_append, toList_length, show (⟨#[38]⟩ : ByteArray).size = 1 from rfl]; omega)
          have HLN : Hid (((acc ++ A.data.toList) ++ (⟨#[38]⟩ : ByteArray).data.toList).length + 4 * R.size ≤ 4 * s.size) := hide (by rw [List.length_append, List.length_append, toList_length, toList_length, show (⟨#[38]⟩ : ByteArray).size = 1 from rfl]; omega)
          have HGN : Hid (((acc ++ A.data.toList) ++ (⟨#[38]⟩ : ByteArray).data.toList) ++ decE R.data.toList = decE s.data.toList) := hide (by rw [← hG, show (⟨#[38]⟩ : ByteArray).data.toList = [38] from rfl]; simp)
          have HLT : Hid (R.size < S.size) := hide (by omega)
          clear hcut hc hA hR hAl hRl hAs hlen hdec hG hx hnl href hr hLL hn hn0 hSz
          go_wp2_with (first
            | (go_at_call 113; with_reducible refine (HCUT.out _).mono ?_; rintro e w3 ⟨rfl, hb3⟩; have HB3 := hide (HB.out.kept hb3); have HM3 := hide (HM.out.kept hb3); clear hb3)
            | (go_at_call 64; have _t := tok1; refine (writeStringM_any _ _ acc A w _ HB3.out HL1.out).mono ?_; rintro e w4 ⟨rfl, hb4, hk4⟩; have HB4 := hide hb4; have HM4 := hide (HM3.out.km hk4); clear hb4 hk4 tok1)
            | (go_at_call 118; refine (HREF.out _ HM4.out (HE.out.kept HB4.out.2.1)).mono ?_; rintro e w5 ⟨rfl, hb5⟩; have HB5 := hide (HB4.out.kept hb5); have HM5 := hide (HM4.out.kept hb5); clear hb5)
            | (go_at_call 64; have _t := tok2; refine (writeStringM_any _ _ _ ⟨#[38]⟩ w _ HB5.out HL2.out).mono ?_; rintro e w6 ⟨rfl, hb6, hk6⟩; have HB6 := hide hb6; have HM6 := hide (HM5.out.km hk6); clear hb6 hk6 tok2))
          go_roundw
          case rel => exact ⟨_, _, rfl, HLN, HB6, HM6, HGN⟩
          case measure => exact HLT.out
end Go.Proofs.YtiejmkjpgjbodaaGreatDoor

namespace Go.Proofs.YtiejmkjpgjbodaaGreatDoor
open Go.RowKit
set_option linter.unusedVariables false
set_option linter.unusedSimpArgs false
set_option maxRecDepth 100000
def mapC (c : UInt8) : Nat := if c = 38 then 0 else if c = 60 then 1 else if c = 62 then 2 else if c = 160 then 3 else if c = 194 then 4 else 5
def ampT : List UInt8 := [38, 97, 109, 112, 59]
def ltT : List UInt8 := [38, 108, 116, 59]
def gtT : List UInt8 := [38, 103, 116, 59]
def nbT : List UInt8 := [38, 110, 98, 115, 112, 59]
def Node (w : World) (b : Nat) (val : ByteArray) (prio : Int) (pre : ByteArray) (nx : Option Addr) (tab : Value) : Prop :=
  w.cell? ⟨b, 0, none⟩ = some (.string val) ∧ w.cell? ⟨b, 1, none⟩ = some (.int .i64 prio) ∧ w.cell? ⟨b, 2, none⟩ = some (.string pre) ∧ w.cell? ⟨b, 3, none⟩ = some (.pointer nx) ∧ w.cell? ⟨b, 4, none⟩ = some tab
structure Trie (w : World) (G T n0 n1 n2 n4 n5 : Nat) : Prop where
  root : Node w G ⟨#[]⟩ 0 ⟨#[]⟩ none (.slice (some ⟨T, 0, none⟩) 5 5)
  size : w.cell? ⟨G, 5, none⟩ = some (.int .i64 5)
  map : ∀ c : UInt8, w.cell? ⟨G, 6 + c.toNat, none⟩ = some (.int .u8 (mapC c))
  t0 : w.cell? ⟨T, 0, none⟩ = some (.pointer (some ⟨n0, 0, none⟩))
  t1 : w.cell? ⟨T, 1, none⟩ = some (.pointer (some ⟨n1, 0, none⟩))
  t2 : w.cell? ⟨T, 2, none⟩ = some (.pointer (some ⟨n2, 0, none⟩))
  t3 : w.cell? ⟨T, 3, none⟩ = some (.pointer none)
  t4 : w.cell? ⟨T, 4, none⟩ = some (.pointer (some ⟨n4, 0, none⟩))
  k0 : Node w n0 (str ampT) 8 ⟨#[]⟩ none (.slice none 0 0)
  k1 : Node w n1 (str ltT) 6 ⟨#[]⟩ none (.slice none 0 0)
  k2 : Node w n2 (str gtT) 4 ⟨#[]⟩ none (.slice none 0 0)
  k4 : Node w n4 ⟨#[]⟩ 0 ⟨#[160]⟩ (some ⟨n5, 0, none⟩) (.slice none 0 0)
  k5 : Node w n5 (str nbT) 2 ⟨#[]⟩ none (.slice none 0 0)
def lookL : List UInt8 → Option (List UInt8 × Nat)
  | 38 :: _ => some (ampT, 1)
  | 60 :: _ => some (ltT, 1)
  | 62 :: _ => some (gtT, 1)
  | 194 :: 160 :: _ => some (nbT, 2)
  | _ => none
theorem below_drewN (w : World) (n : Nat) : Below w.heap.size w (w.drewN n) := ⟨rfl, rfl, rfl, Nat.le_refl _, fun _ _ => rfl⟩
def lookV : Option (List UInt8 × Nat) → Value
  | some (t, n) => .tuple #[.string (str t), .int .i64 n, .bool true]
  | none => .tuple #[.string ⟨#[]⟩, .int .i64 0, .bool false]
def LookP (s : ByteArray) (w : World) (e : Ending) (w' : World) : Prop := e = .returned (lookV (lookL s.data.toList)) ∧ Below w.heap.size w w'
theorem chr_lt (c : UInt8) : c.toNat < 256 := c.toBitVec.isLt
theorem mapC_none {c : UInt8} (ho : c ≠ 38 ∧ c ≠ 60 ∧ c ≠ 62 ∧ c ≠ 160 ∧ c ≠ 194) : mapC c = 5 := by
  obtain ⟨a, b, d, e, f⟩ := ho
  rw [mapC, if_neg a, if_neg b, if_neg d, if_neg e, if_neg f]
theorem look_none {c : UInt8} {r : List UInt8} (ho : c ≠ 38 ∧ c ≠ 60 ∧ c ≠ 62 ∧ c ≠ 160 ∧ c ≠ 194) : lookL (c :: r) = none := by
  obtain ⟨a, b, d, e, f⟩ := ho
  unfold lookL
  split <;> first | rfl | (rename_i h; injection h with h1 h2; exact absurd h1 (by assumption))
theorem look_194n {a : UInt8} {r : List UInt8} (h : a ≠ 160) : lookL (194 :: a :: r) = none := by
  unfold lookL
  split <;> first | rfl | (rename_i h'; injection h' with h1 h2; first | (injection h2 with h3 h4; exact absurd h3 h) | exact absurd h1 (by decide))
set_option maxHeartbeats 4000000 in
theorem look_nil (s : ByteArray) (G T n0 n1 n2 n4 n5 : Nat) (w : World) (h : Trie w G T n0 n1 n2 n4 n5) (hl : s.data.toList = []) :
    Calls Tryz.prog 310 #[.pointer (some ⟨G, 0, none⟩), .string s, .bool false] w (LookP s w) := by
  have HT := hide h
  obtain ⟨r0, r1, r2, r3, r4⟩ := h.root
  have rs := h.size
  clear h
  have z := size0 (t := s) (by rw [← toList_length, hl]; rfl)
  have q1 := z.2
  have HL := hide hl
  clear z hl
  go_enter Tryz.func310, Tryz.ntmps310
  go_wp2_with fail
  go_loop [1, 6, 7, 8, 9, 10, 11] (fun sv a1 a2 a3 bv nd nv => sv = .string s ∧ a1 = .string ⟨#[]⟩ ∧ a2 = .int .i64 0 ∧ a3 = .bool false ∧ bv = .int .i64 0 ∧ nd = .pointer (some ⟨G, 0, none⟩) ∧ nv = .int .i64 0) (fun _ _ _ _ _ _ _ => 0)
  case atStart => exact ⟨rfl, rfl, rfl, rfl, rfl, rfl, rfl⟩
  case round =>
    obtain ⟨rfl, rfl, rfl, rfl, rfl, rfl, rfl⟩ := hrel
    go_wp2_with fail
    go_ret3
    exact ⟨by rw [HL.out]; rfl, Below.refl _ _⟩
set_option maxHeartbeats 4000000 in
theorem look_38 (s : ByteArray) (G T n0 n1 n2 n4 n5 : Nat) (w : World) (h : Trie w G T n0 n1 n2 n4 n5) (r : List UInt8) (hl : s.data.toList = 38 :: r) :
    Calls Tryz.prog 310 #[.pointer (some ⟨G, 0, none⟩), .string s, .bool false] w (LookP s w) := by
  have HT := hide h
  obtain ⟨r0, r1, r2, r3, r4⟩ := h.root
  have rs := h.size
  clear h
  have h0 : 0 < s.size := by rw [← toList_length, hl]; exact Nat.succ_pos _
  have hs0 : s[0] = 38 := by
    have := drop_cons s 0 h0
    rw [List.drop_zero, hl] at this
    injection this with e _; exact e.symm
  have q1 : s.toList.isEmpty = false := by rw [bytes_list, hl]; rfl
  have hm1 : w.cell? ⟨G, 6 + s[0].toNat, none⟩ = some (.int .u8 0) := by rw [HT.out.map s[0], hs0]; rfl
  have b1 : s[0].toNat < 256 := chr_lt _
  have b2 : (s[0].toNat : Int) < 256 := by omega
  have k1 : (1 : Int) ≤ s.size := by omega
  have hd : (s.extract 1 s.size).data.toList = r := by rw [extract_end, hl]; rfl
  have HL := hide hl
  clear hl hs0
  have tj := HT.out.t0
  obtain ⟨p0, p1, p2, p3, p4⟩ := HT.out.k0
  obtain ⟨VT, hVT⟩ : ∃ VT, VT = str ampT := ⟨_, rfl⟩
  rw [← hVT] at p0
  have HVT := hide hVT
  clear hVT hd
  go_enter Tryz.func310, Tryz.ntmps310
  go_wp2_with fail
  go_loopw [1, 6, 7, 8, 9, 10, 11] (fun sv a1 a2 a3 bv nd nv wr => (a1 = .string ⟨#[]⟩ ∧ a2 = .int .i64 0 ∧ a3 = .bool false ∧ bv = .int .i64 0) ∧ (∃ m, Hid (wr = w.drewN m)) ∧ ((sv = .string s ∧ nd = .pointer (some ⟨G, 0, none⟩) ∧ nv = .int .i64 0) ∨ (sv = .string (s.extract 1 s.size) ∧ nd = .pointer (some ⟨n0, 0, none⟩) ∧ nv = .int .i64 1))) (fun _ _ _ _ _ _ nv _ => 3 - (intOf nv).toNat)
  case atStart => exact ⟨⟨rfl, rfl, rfl, rfl⟩, ⟨0, hide rfl⟩, .inl ⟨rfl, rfl, rfl⟩⟩
  case round =>
    obtain ⟨⟨rfl, rfl, rfl, rfl⟩, ⟨m, HW⟩, ⟨rfl, rfl, rfl⟩ | ⟨rfl, rfl, rfl⟩⟩ := hrel
    · have hw := HW.out
      clear HW
      subst hw
      go_wp2_with fail
      go_quiet (fail)
      go_wp2_with fail
      go_roundw
      case rel => exact ⟨⟨rfl, rfl, rfl, rfl⟩, ⟨_, hide rfl⟩, .inr ⟨rfl, rfl, rfl⟩⟩
      case measure => simp [intOf]
    · have hw := HW.out
      clear HW
      subst hw
      cases hz : (s.extract 1 s.size).toList.isEmpty
      · go_wp2_with fail
        go_ret3
        exact ⟨by rw [HL.out, HVT.out]; rfl, below_drewN _ _⟩
      · go_wp2_with fail
        go_ret3
        exact ⟨by rw [HL.out, HVT.out]; rfl, below_drewN _ _⟩
set_option maxHeartbeats 4000000 in
theorem look_60 (s : ByteArray) (G T n0 n1 n2 n4 n5 : Nat) (w : World) (h : Trie w G T n0 n1 n2 n4 n5) (r : List UInt8) (hl : s.data.toList = 60 :: r) :
    Calls Tryz.prog 310 #[.pointer (some ⟨G, 0, none⟩), .string s, .bool false] w (LookP s w) := by
  have HT := hide h
  obtain ⟨r0, r1, r2, r3, r4⟩ := h.root
  have rs := h.size
  clear h
  have h0 : 0 < s.size := by rw [← toList_length, hl]; exact Nat.succ_pos _
  have hs0 : s[0] = 60 := by
    have := drop_cons s 0 h0
    rw [List.drop_zero, hl] at this
    injection this with e _; exact e.symm
  have q1 : s.toList.isEmpty = false := by rw [bytes_list, hl]; rfl
  have hm1 : w.cell? ⟨G, 6 + s[0].toNat, none⟩ = some (.int .u8 1) := by rw [HT.out.map s[0], hs0]; rfl
  have b1 : s[0].toNat < 256 := chr_lt _
  have b2 : (s[0].toNat : Int) < 256 := by omega
  have k1 : (1 : Int) ≤ s.size := by omega
  have hd : (s.extract 1 s.size).data.toList = r := by rw [extract_end, hl]; rfl
  have HL := hide hl
  clear hl hs0
  have tj := HT.out.t1
  obtain ⟨p0, p1, p2, p3, p4⟩ := HT.out.k1
  obtain ⟨VT, hVT⟩ : ∃ VT, VT = str ltT := ⟨_, rfl⟩
  rw [← hVT] at p0
  have HVT := hide hVT
  clear hVT hd
  go_enter Tryz.func310, Tryz.ntmps310
  go_wp2_with fail
  go_loopw [1, 6, 7, 8, 9, 10, 11] (fun sv a1 a2 a3 bv nd nv wr => (a1 = .string ⟨#[]⟩ ∧ a2 = .int .i64 0 ∧ a3 = .bool false ∧ bv = .int .i64 0) ∧ (∃ m, Hid (wr = w.drewN m)) ∧ ((sv = .string s ∧ nd = .pointer (some ⟨G, 0, none⟩) ∧ nv = .int .i64 0) ∨ (sv = .string (s.extract 1 s.size) ∧ nd = .pointer (some ⟨n1, 0, none⟩) ∧ nv = .int .i64 1))) (fun _ _ _ _ _ _ nv _ => 3 - (intOf nv).toNat)
  case atStart => exact ⟨⟨rfl, rfl, rfl, rfl⟩, ⟨0, hide rfl⟩, .inl ⟨rfl, rfl, rfl⟩⟩
  case round =>
    obtain ⟨⟨rfl, rfl, rfl, rfl⟩, ⟨m, HW⟩, ⟨rfl, rfl, rfl⟩ | ⟨rfl, rfl, rfl⟩⟩ := hrel
    · have hw := HW.out
      clear HW
      subst hw
      go_wp2_with fail
      go_quiet (fail)
      go_wp2_with fail
      go_roundw
      case rel => exact ⟨⟨rfl, rfl, rfl, rfl⟩, ⟨_, hide rfl⟩, .inr ⟨rfl, rfl, rfl⟩⟩
      case measure => simp [intOf]
    · have hw := HW.out
      clear HW
      subst hw
      cases hz : (s.extract 1 s.size).toList.isEmpty
      · go_wp2_with fail
        go_ret3
        exact ⟨by rw [HL.out, HVT.out]; rfl, below_drewN _ _⟩
      · go_wp2_with fail
        go_ret3
        exact ⟨by rw [HL.out, HVT.out]; rfl, below_drewN _ _⟩
set_option maxHeartbeats 4000000 in
theorem look_62 (s : ByteArray) (G T n0 n1 n2 n4 n5 : Nat) (w : World) (h : Trie w G T n0 n1 n2 n4 n5) (r : List UInt8) (hl : s.data.toList = 62 :: r) :
    Calls Tryz.prog 310 #[.pointer (some ⟨G, 0, none⟩), .string s, .bool false] w (LookP s w) := by
  have HT := hide h
  obtain ⟨r0, r1, r2, r3, r4⟩ := h.root
  have rs := h.size
  clear h
  have h0 : 0 < s.size := by rw [← toList_length, hl]; exact Nat.succ_pos _
  have hs0 : s[0] = 62 := by
    have := drop_cons s 0 h0
    rw [List.drop_zero, hl] at this
    injection this with e _; exact e.symm
  have q1 : s.toList.isEmpty = false := by rw [bytes_list, hl]; rfl
  have hm1 : w.cell? ⟨G, 6 + s[0].toNat, none⟩ = some (.int .u8 2) := by rw [HT.out.map s[0], hs0]; rfl
  have b1 : s[0].toNat < 256 := chr_lt _
  have b2 : (s[0].toNat : Int) < 256 := by omega
  have k1 : (1 : Int) ≤ s.size := by omega
  have hd : (s.extract 1 s.size).data.toList = r := by rw [extract_end, hl]; rfl
  have HL := hide hl
  clear hl hs0
  have tj := HT.out.t2
  obtain ⟨p0, p1, p2, p3, p4⟩ := HT.out.k2
  obtain ⟨VT, hVT⟩ : ∃ VT, VT = str gtT := ⟨_, rfl⟩
  rw [← hVT] at p0
  have HVT := hide hVT
  clear hVT hd
  go_enter Tryz.func310, Tryz.ntmps310
  go_wp2_with fail
  go_loopw [1, 6, 7, 8, 9, 10, 11] (fun sv a1 a2 a3 bv nd nv wr => (a1 = .string ⟨#[]⟩ ∧ a2 = .int .i64 0 ∧ a3 = .bool false ∧ bv = .int .i64 0) ∧ (∃ m, Hid (wr = w.drewN m)) ∧ ((sv = .string s ∧ nd = .pointer (some ⟨G, 0, none⟩) ∧ nv = .int .i64 0) ∨ (sv = .string (s.extract 1 s.size) ∧ nd = .pointer (some ⟨n2, 0, none⟩) ∧ nv = .int .i64 1))) (fun _ _ _ _ _ _ nv _ => 3 - (intOf nv).toNat)
  case atStart => exact ⟨⟨rfl, rfl, rfl, rfl⟩, ⟨0, hide rfl⟩, .inl ⟨rfl, rfl, rfl⟩⟩
  case round =>
    obtain ⟨⟨rfl, rfl, rfl, rfl⟩, ⟨m, HW⟩, ⟨rfl, rfl, rfl⟩ | ⟨rfl, rfl, rfl⟩⟩ := hrel
    · have hw := HW.out
      clear HW
      subst hw
      go_wp2_with fail
      go_quiet (fail)
      go_wp2_with fail
      go_roundw
      case rel => exact ⟨⟨rfl, rfl, rfl, rfl⟩, ⟨_, hide rfl⟩, .inr ⟨rfl, rfl, rfl⟩⟩
      case measure => simp [intOf]
    · have hw := HW.out
      clear HW
      subst hw
      cases hz : (s.extract 1 s.size).toList.isEmpty
      · go_wp2_with fail
        go_ret3
        exact ⟨by rw [HL.out, HVT.out]; rfl, below_drewN _ _⟩
      · go_wp2_with fail
        go_ret3
        exact ⟨by rw [HL.out, HVT.out]; rfl, below_drewN _ _⟩
set_option maxHeartbeats 4000000 in
theorem look_160 (s : ByteArray) (G T n0 n1 n2 n4 n5 : Nat) (w : World) (h : Trie w G T n0 n1 n2 n4 n5) (r : List UInt8) (hl : s.data.toList = 160 :: r) :
    Calls Tryz.prog 310 #[.pointer (some ⟨G, 0, none⟩), .string s, .bool false] w (LookP s w) := by
  have HT := hide h
  obtain ⟨r0, r1, r2, r3, r4⟩ := h.root
  have rs := h.size
  clear h
  have h0 : 0 < s.size := by rw [← toList_length, hl]; exact Nat.succ_pos _
  have hs0 : s[0] = 160 := by
    have := drop_cons s 0 h0
    rw [List.drop_zero, hl] at this
    injection this with e _; exact e.symm
  have q1 : s.toList.isEmpty = false := by rw [bytes_list, hl]; rfl
  have hm1 : w.cell? ⟨G, 6 + s[0].toNat, none⟩ = some (.int .u8 3) := by rw [HT.out.map s[0], hs0]; rfl
  have b1 : s[0].toNat < 256 := chr_lt _
  have b2 : (s[0].toNat : Int) < 256 := by omega
  have k1 : (1 : Int) ≤ s.size := by omega
  have hd : (s.extract 1 s.size).data.toList = r := by rw [extract_end, hl]; rfl
  have HL := hide hl
  clear hl hs0
  have tj := HT.out.t3
  clear hd
  go_enter Tryz.func310, Tryz.ntmps310
  go_wp2_with fail
  go_loopw [1, 6, 7, 8, 9, 10, 11] (fun sv a1 a2 a3 bv nd nv wr => (a1 = .string ⟨#[]⟩ ∧ a2 = .int .i64 0 ∧ a3 = .bool false ∧ bv = .int .i64 0) ∧ (∃ m, Hid (wr = w.drewN m)) ∧ ((sv = .string s ∧ nd = .pointer (some ⟨G, 0, none⟩) ∧ nv = .int .i64 0) ∨ (sv = .string (s.extract 1 s.size) ∧ nd = .pointer none ∧ nv = .int .i64 1))) (fun _ _ _ _ _ _ nv _ => 3 - (intOf nv).toNat)
  case atStart => exact ⟨⟨rfl, rfl, rfl, rfl⟩, ⟨0, hide rfl⟩, .inl ⟨rfl, rfl, rfl⟩⟩
  case round =>
    obtain ⟨⟨rfl, rfl, rfl, rfl⟩, ⟨m, HW⟩, ⟨rfl, rfl, rfl⟩ | ⟨rfl, rfl, rfl⟩⟩ := hrel
    · have hw := HW.out
      clear HW
      subst hw
      go_wp2_with fail
      go_quiet (fail)
      go_wp2_with fail
      go_roundw
      case rel => exact ⟨⟨rfl, rfl, rfl, rfl⟩, ⟨_, hide rfl⟩, .inr ⟨rfl, rfl, rfl⟩⟩
      case measure => simp [intOf]
    · have hw := HW.out
      clear HW
      subst hw
      go_wp2_with fail
      go_ret3
      exact ⟨by rw [HL.out]; rfl, below_drewN _ _⟩
set_option maxHeartbeats 4000000 in
theorem look_other (s : ByteArray) (G T n0 n1 n2 n4 n5 : Nat) (w : World) (h : Trie w G T n0 n1 n2 n4 n5) (c : UInt8) (r : List UInt8) (hl : s.data.toList = c :: r) (ho : c ≠ 38 ∧ c ≠ 60 ∧ c ≠ 62 ∧ c ≠ 160 ∧ c ≠ 194) :
    Calls Tryz.prog 310 #[.pointer (some ⟨G, 0, none⟩), .string s, .bool false] w (LookP s w) := by
  have HT := hide h
  obtain ⟨r0, r1, r2, r3, r4⟩ := h.root
  have rs := h.size
  clear h
  have h0 : 0 < s.size := by rw [← toList_length, hl]; exact Nat.succ_pos _
  have hs0 : s[0] = c := by
    have := drop_cons s 0 h0
    rw [List.drop_zero, hl] at this
    injection this with e _; exact e.symm
  have q1 : s.toList.isEmpty = false := by rw [bytes_list, hl]; rfl
  have hm1 : w.cell? ⟨G, 6 + s[0].toNat, none⟩ = some (.int .u8 5) := by rw [HT.out.map s[0], hs0]; rw [mapC_none ho]; rfl
  have b1 : s[0].toNat < 256 := chr_lt _
  have b2 : (s[0].toNat : Int) < 256 := by omega
  have k1 : (1 : Int) ≤ s.size := by omega
  have hd : (s.extract 1 s.size).data.toList = r := by rw [extract_end, hl]; rfl
  have HL := hide hl
  clear hl hs0
  clear hd
  go_enter Tryz.func310, Tryz.ntmps310
  go_wp2_with fail
  go_loopw [1, 6, 7, 8, 9, 10, 11] (fun sv a1 a2 a3 bv nd nv wr => (sv = .string s ∧ nd = .pointer (some ⟨G, 0, none⟩) ∧ nv = .int .i64 0) ∧ (a1 = .string ⟨#[]⟩ ∧ a2 = .int .i64 0 ∧ a3 = .bool false ∧ bv = .int .i64 0) ∧ Hid (wr = w)) (fun _ _ _ _ _ _ _ _ => 0)
  case atStart => exact ⟨⟨rfl, rfl, rfl⟩, ⟨rfl, rfl, rfl, rfl⟩, hide rfl⟩
  case round =>
    obtain ⟨⟨rfl, rfl, rfl⟩, ⟨rfl, rfl, rfl, rfl⟩, HW⟩ := hrel
    have hw := HW.out
    clear HW
    subst hw
    go_wp2_with fail
    go_quiet (fail)
    go_wp2_with fail
    go_ret3
    exact ⟨by rw [HL.out, look_none ho]; rfl, below_drewN _ _⟩
set_option maxHeartbeats 4000000 in
theorem look_194 (s : ByteArray) (G T n0 n1 n2 n4 n5 : Nat) (w : World) (h : Trie w G T n0 n1 n2 n4 n5) (r : List UInt8) (hl : s.data.toList = 194 :: r) :
    Calls Tryz.prog 310 #[.pointer (some ⟨G, 0, none⟩), .string s, .bool false] w (LookP s w) := by
  have HT := hide h
  obtain ⟨r0, r1, r2, r3, r4⟩ := h.root
  have rs := h.size
  clear h
  have h0 : 0 < s.size := by rw [← toList_length, hl]; exact Nat.succ_pos _
  have hs0 : s[0] = 194 := by
    have := drop_cons s 0 h0
    rw [List.drop_zero, hl] at this
    injection this with e _; exact e.symm
  have q1 : s.toList.isEmpty = false := by rw [bytes_list, hl]; rfl
  have hm1 : w.cell? ⟨G, 6 + s[0].toNat, none⟩ = some (.int .u8 4) := by rw [HT.out.map s[0], hs0]; rfl
  have b1 : s[0].toNat < 256 := chr_lt _
  have b2 : (s[0].toNat : Int) < 256 := by omega
  have k1 : (1 : Int) ≤ s.size := by omega
  have hd : (s.extract 1 s.size).data.toList = r := by rw [extract_end, hl]; rfl
  have HL := hide hl
  clear hl hs0
  have tj := HT.out.t4
  obtain ⟨p0, p1, p2, p3, p4⟩ := HT.out.k4
  obtain ⟨o0, o1, o2, o3, o4⟩ := HT.out.k5
  obtain ⟨VT, hVT⟩ : ∃ VT, VT = str nbT := ⟨_, rfl⟩
  rw [← hVT] at o0
  have HVT := hide hVT
  obtain ⟨S1, hS1⟩ : ∃ S1, S1 = s.extract 1 s.size := ⟨_, rfl⟩
  have hd1 : S1.data.toList = r := by rw [hS1]; exact hd
  cases hp : Lib.hasPrefix S1.data.toList [160] with
  | true =>
    obtain ⟨r1, hr1⟩ : ∃ r1, r = 160 :: r1 := by
      rw [hd1] at hp
      cases r with
      | nil => simp [Lib.hasPrefix] at hp
      | cons a r1 => exact ⟨r1, by simp [Lib.hasPrefix] at hp; rw [hp]⟩
    have q2 : S1.toList.isEmpty = false := by rw [bytes_list, hd1, hr1]; rfl
    have k2 : (1 : Int) ≤ S1.size := by
      have : 0 < S1.size := by rw [← toList_length, hd1, hr1]; exact Nat.succ_pos _
      omega
    have HR := hide hr1
    have HC := hide (Tryz.strings_HasPrefix S1 ⟨#[160]⟩)
    have HP := hide hp
    have HS := hide hS1
    clear hVT hd hr1 hd1 hp hS1
    go_enter Tryz.func310, Tryz.ntmps310
    go_wp2_with fail
    go_loopw [1, 6, 7, 8, 9, 10, 11] (fun sv a1 a2 a3 bv nd nv wr => (a1 = .string ⟨#[]⟩ ∧ a2 = .int .i64 0 ∧ a3 = .bool false ∧ bv = .int .i64 0) ∧ (∃ m, Hid (wr = w.drewN m)) ∧ ((sv = .string s ∧ nd = .pointer (some ⟨G, 0, none⟩) ∧ nv = .int .i64 0) ∨ (sv = .string S1 ∧ nd = .pointer (some ⟨n4, 0, none⟩) ∧ nv = .int .i64 1) ∨ (∃ S2, sv = .string S2 ∧ nd = .pointer (some ⟨n5, 0, none⟩) ∧ nv = .int .i64 2))) (fun _ _ _ _ _ _ nv _ => 3 - (intOf nv).toNat)
    case atStart => exact ⟨⟨rfl, rfl, rfl, rfl⟩, ⟨0, hide rfl⟩, .inl ⟨rfl, rfl, rfl⟩⟩
    case round =>
      obtain ⟨⟨rfl, rfl, rfl, rfl⟩, ⟨m, HW⟩, ⟨rfl, rfl, rfl⟩ | ⟨rfl, rfl, rfl⟩ | ⟨S2, rfl, rfl, rfl⟩⟩ := hrel
      · have hw := HW.out
        clear HW
        subst hw
        go_wp2_with fail
        go_quiet (fail)
        go_wp2_with fail
        go_roundw
        case rel => exact ⟨⟨rfl, rfl, rfl, rfl⟩, ⟨_, hide rfl⟩, .inr (.inl ⟨by rw [← HS.out], rfl, rfl⟩)⟩
        case measure => simp [intOf]
      · have hw := HW.out
        clear HW
        subst hw
        go_wp2_with (refine (HC.out _).mono ?_; rintro e w1 ⟨rfl, rfl⟩; rw [show Lib.hasPrefix S1.data.toList (⟨#[160]⟩ : ByteArray).data.toList = true from HP.out])
        go_roundw
        case rel => exact ⟨⟨rfl, rfl, rfl, rfl⟩, ⟨_, hide rfl⟩, .inr (.inr ⟨_, rfl, rfl, rfl⟩)⟩
        case measure => simp [intOf]
      · have hw := HW.out
        clear HW
        subst hw
        cases hz : S2.toList.isEmpty
        · go_wp2_with fail
          go_ret3
          exact ⟨by rw [HL.out, HVT.out, HR.out]; rfl, below_drewN _ _⟩
        · go_wp2_with fail
          go_ret3
          exact ⟨by rw [HL.out, HVT.out, HR.out]; rfl, below_drewN _ _⟩
  | false =>
    have hR : lookL (194 :: r) = none := by
      rw [hd1] at hp
      cases r with
      | nil => rfl
      | cons a r1 => exact look_194n (by rintro rfl; simp [Lib.hasPrefix] at hp)
    have HR := hide hR
    have HC := hide (Tryz.strings_HasPrefix S1 ⟨#[160]⟩)
    have HP := hide hp
    have HS := hide hS1
    clear hVT hd hd1 hp hR hS1
    go_enter Tryz.func310, Tryz.ntmps310
    go_wp2_with fail
    go_loopw [1, 6, 7, 8, 9, 10, 11] (fun sv a1 a2 a3 bv nd nv wr => (a1 = .string ⟨#[]⟩ ∧ a2 = .int .i64 0 ∧ a3 = .bool false ∧ bv = .int .i64 0) ∧ (∃ m, Hid (wr = w.drewN m)) ∧ ((sv = .string s ∧ nd = .pointer (some ⟨G, 0, none⟩) ∧ nv = .int .i64 0) ∨ (sv = .string S1 ∧ nd = .pointer (some ⟨n4, 0, none⟩) ∧ nv = .int .i64 1))) (fun _ _ _ _ _ _ nv _ => 3 - (intOf nv).toNat)
    case atStart => exact ⟨⟨rfl, rfl, rfl, rfl⟩, ⟨0, hide rfl⟩, .inl ⟨rfl, rfl, rfl⟩⟩
    case round =>
      obtain ⟨⟨rfl, rfl, rfl, rfl⟩, ⟨m, HW⟩, ⟨rfl, rfl, rfl⟩ | ⟨rfl, rfl, rfl⟩⟩ := hrel
      · have hw := HW.out
        clear HW
        subst hw
        go_wp2_with fail
        go_quiet (fail)
        go_wp2_with fail
        go_roundw
        case rel => exact ⟨⟨rfl, rfl, rfl, rfl⟩, ⟨_, hide rfl⟩, .inr ⟨by rw [← HS.out], rfl, rfl⟩⟩
        case measure => simp [intOf]
      · have hw := HW.out
        clear HW
        subst hw
        cases hz : S1.toList.isEmpty
        · go_wp2_with (refine (HC.out _).mono ?_; rintro e w1 ⟨rfl, rfl⟩; rw [show Lib.hasPrefix S1.data.toList (⟨#[160]⟩ : ByteArray).data.toList = false from HP.out])
          go_ret3
          exact ⟨by rw [HL.out, HR.out]; rfl, below_drewN _ _⟩
        · go_wp2_with fail
          go_ret3
          exact ⟨by rw [HL.out, HR.out]; rfl, below_drewN _ _⟩
theorem look_any (s : ByteArray) (G T n0 n1 n2 n4 n5 : Nat) (w : World) (h : Trie w G T n0 n1 n2 n4 n5) :
    Calls Tryz.prog 310 #[.pointer (some ⟨G, 0, none⟩), .string s, .bool false] w (LookP s w) := by
  cases hl : s.data.toList with
  | nil => exact look_nil s G T n0 n1 n2 n4 n5 w h hl
  | cons c r =>
    by_cases e1 : c = 38
    · subst e1; exact look_38 s G T n0 n1 n2 n4 n5 w h r hl
    by_cases e2 : c = 60
    · subst e2; exact look_60 s G T n0 n1 n2 n4 n5 w h r hl
    by_cases e3 : c = 62
    · subst e3; exact look_62 s G T n0 n1 n2 n4 n5 w h r hl
    by_cases e4 : c = 160
    · subst e4; exact look_160 s G T n0 n1 n2 n4 n5 w h r hl
    by_cases e5 : c = 194
    · subst e5; exact look_194 s G T n0 n1 n2 n4 n5 w h r hl
    exact look_other s G T n0 n1 n2 n4 n5 w h c r hl ⟨e1, e2, e3, e4, e5⟩
end Go.Proofs.YtiejmkjpgjbodaaGreatDoor

namespace Go.Proofs.YtiejmkjpgjbodaaGreatDoor
open Go.RowKit
set_option linter.unusedVariables false
set_option linter.unusedSimpArgs false
set_option maxRecDepth 100000
def WBuf (B b : Nat) (l : List UInt8) (W0 w : World) : Prop := B ≤ b ∧ ∃ v, Box w b 311 v ∧ Buf B v l W0 w
theorem WBuf.drewN {B b : Nat} {l : List UInt8} {W0 w : World} (h : WBuf B b l W0 w) (n : Nat) : WBuf B b l W0 (w.drewN n) := by
  obtain ⟨hB, v, h1, h2⟩ := h
  exact ⟨hB, v, h1.drewN n, h2.drewN n⟩
theorem WBuf.below {B b : Nat} {l : List UInt8} {W0 w : World} (h : WBuf B b l W0 w) : Below B W0 w := by
  obtain ⟨hB, v, h1, h2⟩ := h
  exact h2.below
theorem WBuf.kept {B b : Nat} {l : List UInt8} {W0 w w' : World} (h : WBuf B b l W0 w) (hb : Below w.heap.size w w') : WBuf B b l W0 w' := by
  obtain ⟨hB, v, h1, h2⟩ := h
  exact ⟨hB, v, h1.below hb h1.lt, h2.kept hb⟩
theorem wpList_wbuf_text {ops : Array Oper} {rest : List Oper} {o : Oper} {a : Act} {Q : Exit → Act → World → Prop} {w : World} (hgd : o.guard = none) (sl x : Operand)
    (ho : o.op = .call { callee := .builtin .append, args := #[sl, x], argTypes := #[311, 9] })
    (B : Nat) (v : Value) (l : List UInt8) (hs : a.eval sl = v) (W0 : World) (hb : Buf B v l W0 w) (s : ByteArray) (hx : a.eval x = .string s) (hlen : l.length + s.size ≤ 140737488355328)
    (h : ∀ v' w', Buf B v' (l ++ s.data.toList) W0 w' → w.grownBy w' v.ownBlock → wpList Tryz.prog ops Q rest (a.put o.dst v') w') : wpList Tryz.prog ops Q (o :: rest) a w := by
  obtain ⟨i0, hi, hz0, hz1, hz2⟩ := info_parts info_u8
  refine Lib.wpList_append_own_string w hgd sl x 311 9 ho B 5 i0 Tryz.underlying311 Tryz.underlying9 hi hz0 hz1 hz2 v l.length (cellsOf l) hs hb.1 s hx (by unfold maxLen; omega) hlen hb.2.2 ?_
  intro v' w' ho' hg _
  refine h v' w' (hb.grown (l' := l ++ s.data.toList) ?_ hg) hg
  rw [List.length_append, toList_length, cellsOf, List.map_append]
  exact ho'
set_option maxHeartbeats 1000000 in
theorem appender_any (B b : Nat) (l : List UInt8) (s : ByteArray) (W0 w : World) (h : WBuf B b l W0 w) (hlen : l.length + s.size ≤ 140737488355328) :
    Calls Tryz.prog 320 #[.pointer (some ⟨b, 0, none⟩), .string s] w fun e w' => e = .returned (.tuple #[.int .i64 s.size, .nilIface]) ∧ WBuf B b (l ++ s.data.toList) W0 w' := by
  obtain ⟨hB, v, hbx, hbf⟩ := h
  have c0 := hbx.cell
  have HBX := hide hbx
  have HBF := hide hbf
  clear hbx hbf
  go_enter Tryz.func320, Tryz.ntmps320
  go_wp2_with (refine wpList_wbuf_text rfl _ _ rfl B v l rfl W0 HBF.out s rfl hlen ?_; intro v' w2 hbf2 hgr; have hbx2 : Box w2 b 311 v := (kept_own HBF.out hgr) b _ v (by decide) HBX.out; have f2 := hbx2.free; have d2 := hbx2.cell; have HF2 := hide hbf2; have HX2 := hide hbx2; clear hbf2 hgr hbx2; obtain ⟨A, n, c, rfl⟩ := HF2.out.slice)
  go_ret2
  exact ⟨rfl, hB, _, HX2.out.set _, HF2.out.setBox HX2.out (by decide) hB _⟩
theorem assert_writer (a : Addr) (w : World) : (Instr.typeAssert (.iface 312 (.pointer (some a))) 314 316 true).run Tryz.prog w = .ok (.tuple #[.iface 312 (.pointer (some a)), .bool true]) w := by kernel_rfl
set_option maxHeartbeats 1000000 in
theorem getWriter_any (b : Nat) (w : World) :
    Calls Tryz.prog 309 #[.iface 312 (.pointer (some ⟨b, 0, none⟩))] w fun e w' => e = .returned (.iface 312 (.pointer (some ⟨b, 0, none⟩))) ∧ w' = w := by
  have hta := assert_writer
  go_enter Tryz.func309, Tryz.ntmps309
  go_wp2_with fail
  go_ret
  exact ⟨rfl, rfl⟩
theorem meth_append (a : Addr) (w : World) : (method 423 312 (.pointer (some a)) "WriteString").run Tryz.prog w = .ok (320, .pointer (some a)) w := by kernel_rfl
end Go.Proofs.YtiejmkjpgjbodaaGreatDoor

namespace Go.Proofs.YtiejmkjpgjbodaaGreatDoor
open Go.RowKit
set_option linter.unusedVariables false
set_option linter.unusedSimpArgs false
set_option maxRecDepth 100000
def escG : List UInt8 → List UInt8
  | [] => []
  | c :: r => match lookL (c :: r) with
    | some (t, n) => t ++ escG (r.drop (n - 1))
    | none => c :: escG r
termination_by l => l.length
decreasing_by all_goals simp; try omega
theorem lookL_some {l : List UInt8} {t : List UInt8} {n : Nat} (h : lookL l = some (t, n)) : 1 ≤ n ∧ n ≤ 2 ∧ n ≤ l.length ∧ t.length ≤ 6 ∧ t ≠ [] := by
  unfold lookL at h
  split at h <;> first | (injection h with h; injection h with h1 h2; subst h1 h2; refine ⟨by omega, by omega, by simp, by decide, by decide⟩) | cases h
theorem escG_some {l : List UInt8} {t : List UInt8} {n : Nat} (h : lookL l = some (t, n)) : escG l = t ++ escG (l.drop n) := by
  have hp := lookL_some h
  cases l with
  | nil => simp [lookL] at h
  | cons c r =>
    rw [escG, h]
    obtain ⟨k, rfl⟩ : ∃ k, n = k + 1 := ⟨n - 1, by omega⟩
    rfl
theorem escG_none {c : UInt8} {r : List UInt8} (h : lookL (c :: r) = none) : escG (c :: r) = c :: escG r := by
  rw [escG, h]
theorem escG_len : ∀ (k : Nat) (l : List UInt8), l.length ≤ k → (escG l).length ≤ 6 * l.length
  | 0, l, h => by
    have : l = [] := List.eq_nil_of_length_eq_zero (by omega)
    subst this; rw [escG]; simp
  | k + 1, [], h => by rw [escG]; simp
  | k + 1, c :: r, h => by
    cases e : lookL (c :: r) with
    | none =>
      rw [escG_none e]
      have := escG_len k r (by simp at h; omega)
      simp only [List.length_cons]; omega
    | some p =>
      obtain ⟨t, n⟩ := p
      have hp := lookL_some e
      rw [escG_some e]
      have := escG_len k ((c :: r).drop n) (by rw [List.length_drop]; simp at h ⊢; omega)
      rw [List.length_append]
      rw [List.length_drop] at this
      omega
theorem Trie.below {w w' : World} {G T n0 n1 n2 n4 n5 B : Nat} (h : Trie w G T n0 n1 n2 n4 n5) (hb : Below B w w') (hB : G < B ∧ T < B ∧ n0 < B ∧ n1 < B ∧ n2 < B ∧ n4 < B ∧ n5 < B) : Trie w' G T n0 n1 n2 n4 n5 := by
  have key : ∀ (b o : Nat), b < B → w'.cell? ⟨b, o, none⟩ = w.cell? ⟨b, o, none⟩ := fun b o hb' => hb.cell (p := ⟨b, o, none⟩) hb'
  have kn : ∀ {b val prio pre nx tab}, b < B → Node w b val prio pre nx tab → Node w' b val prio pre nx tab := by
    intro b val prio pre nx tab hb' ⟨a0, a1, a2, a3, a4⟩
    exact ⟨(key _ _ hb').trans a0, (key _ _ hb').trans a1, (key _ _ hb').trans a2, (key _ _ hb').trans a3, (key _ _ hb').trans a4⟩
  obtain ⟨b0, b1, b2, b3, b4, b5, b6⟩ := hB
  exact ⟨kn b0 h.root, (key _ _ b0).trans h.size, fun c => (key _ _ b0).trans (h.map c), (key _ _ b1).trans h.t0, (key _ _ b1).trans h.t1, (key _ _ b1).trans h.t2, (key _ _ b1).trans h.t3, (key _ _ b1).trans h.t4, kn b2 h.k0, kn b3 h.k1, kn b4 h.k2, kn b5 h.k4, kn b6 h.k5⟩
theorem Trie.drewN {w : World} {G T n0 n1 n2 n4 n5 : Nat} (h : Trie w G T n0 n1 n2 n4 n5) (n : Nat) : Trie (w.drewN n) G T n0 n1 n2 n4 n5 := ⟨h.1, h.2, h.3, h.4, h.5, h.6, h.7, h.8, h.9, h.10, h.11, h.12, h.13⟩
theorem Trie.on {w : World} {G T n0 n1 n2 n4 n5 : Nat} (h : Trie w G T n0 n1 n2 n4 n5) {c : UInt8} (hc : c = 38 ∨ c = 60 ∨ c = 62 ∨ c = 194) :
    ∃ j nx : Nat, j < 5 ∧ w.cell? ⟨G, 6 + c.toNat, none⟩ = some (.int .u8 (j : Int)) ∧ w.cell? ⟨T, j, none⟩ = some (.pointer (some ⟨nx, 0, none⟩)) := by
  rcases hc with rfl | rfl | rfl | rfl
  · exact ⟨0, n0, by omega, h.map 38, h.t0⟩
  · exact ⟨1, n1, by omega, h.map 60, h.t1⟩
  · exact ⟨2, n2, by omega, h.map 62, h.t2⟩
  · exact ⟨4, n4, by omega, h.map 194, h.t4⟩
theorem look_off {c : UInt8} {r : List UInt8} (hc : ¬(c = 38 ∨ c = 60 ∨ c = 62 ∨ c = 194)) : lookL (c :: r) = none := by
  unfold lookL
  split <;> first | rfl | (rename_i h; injection h with h1 h2; exact absurd h1 (by intro e; exact hc (by simp [e])))
def WInv (L : List UInt8) (i m : Nat) (acc : List UInt8) : Prop := m ≤ i ∧ i ≤ L.length + 1 ∧ m ≤ L.length ∧ acc ++ (L.take i).drop m ++ escG (L.drop i) = escG L
theorem WInv.skip {L : List UInt8} {i m : Nat} {acc : List UInt8} (h : WInv L i m acc) (hi : i < L.length) (hn : lookL (L.drop i) = none) : WInv L (i + 1) m acc := by
  obtain ⟨h1, h2, h3, h4⟩ := h
  refine ⟨by omega, by omega, h3, ?_⟩
  rw [← h4]
  have e : L.drop i = L[i] :: L.drop (i + 1) := List.drop_eq_getElem_cons hi
  rw [e] at hn ⊢
  rw [escG_none hn, List.take_add_one, List.getElem?_eq_getElem hi, List.drop_append_of_le_length (by rw [List.length_take]; omega)]
  simp
theorem WInv.last {L : List UInt8} {m : Nat} {acc : List UInt8} (h : WInv L L.length m acc) : WInv L (L.length + 1) m acc := by
  obtain ⟨h1, h2, h3, h4⟩ := h
  refine ⟨by omega, by omega, h3, ?_⟩
  rw [← h4, List.take_of_length_le (Nat.le_succ _), List.take_length, List.drop_length, List.drop_eq_nil_of_le (Nat.le_succ _)]
theorem WInv.hit {L : List UInt8} {i m n : Nat} {acc t : List UInt8} (h : WInv L i m acc) (hn : lookL (L.drop i) = some (t, n)) : i + n ≤ L.length ∧ WInv L (i + n) (i + n) (acc ++ (L.take i).drop m ++ t) := by
  obtain ⟨h1, h2, h3, h4⟩ := h
  have hp := lookL_some hn
  rw [List.length_drop] at hp
  refine ⟨by omega, by omega, by omega, by omega, ?_⟩
  rw [← h4, escG_some hn, List.drop_drop, show (L.take (i + n)).drop (i + n) = [] from List.drop_eq_nil_of_le (by rw [List.length_take]; omega)]
  simp
theorem WInv.len {L : List UInt8} {i m : Nat} {acc : List UInt8} (h : WInv L i m acc) : acc.length ≤ 6 * L.length := by
  have := escG_len L.length L (Nat.le_refl _)
  rw [← h.2.2.2] at this
  simp only [List.length_append] at this
  omega
theorem WInv.fin {L : List UInt8} {m : Nat} {acc : List UInt8} (h : WInv L (L.length + 1) m acc) : acc ++ L.drop m = escG L := by
  obtain ⟨h1, h2, h3, h4⟩ := h
  rw [← h4, List.take_of_length_le (Nat.le_succ _), show L.drop (L.length + 1) = [] from List.drop_eq_nil_of_le (Nat.le_succ _)]
  simp [escG]
end Go.Proofs.YtiejmkjpgjbodaaGreatDoor

namespace Go.Proofs.YtiejmkjpgjbodaaGreatDoor
open Go.RowKit
set_option linter.unusedVariables false
set_option linter.unusedSimpArgs false
set_option maxRecDepth 100000
def quT : List UInt8 := [38, 113, 117, 111, 116, 59]
def escQ (q : Bool) : List UInt8 → List UInt8
  | [] => []
  | c :: r => if q = true ∧ c = 34 then quT ++ escQ q r else match lookL (c :: r) with
    | some (t, n) => t ++ escQ q (r.drop (n - 1))
    | none => c :: escQ q r
termination_by l => l.length
decreasing_by all_goals simp; try omega
theorem look_forms {l t : List UInt8} {n : Nat} (h : lookL l = some (t, n)) : ∃ r, (l = 38 :: r ∧ t = ampT ∧ n = 1) ∨ (l = 60 :: r ∧ t = ltT ∧ n = 1) ∨ (l = 62 :: r ∧ t = gtT ∧ n = 1) ∨ (l = 194 :: 160 :: r ∧ t = nbT ∧ n = 2) := by
  unfold lookL at h
  split at h <;> first
    | (rename_i r; injection h with h; injection h with h1 h2; subst h1 h2; exact ⟨r, by simp⟩)
    | cases h
theorem escQ_nil (q : Bool) : escQ q [] = [] := by rw [escQ]
theorem escQ_quote (r : List UInt8) : escQ true (34 :: r) = quT ++ escQ true r := by rw [escQ, if_pos ⟨rfl, rfl⟩]
theorem escQ_some {q : Bool} {l t : List UInt8} {n : Nat} (h : lookL l = some (t, n)) : escQ q l = t ++ escQ q (l.drop n) := by
  obtain ⟨r, ⟨rfl, rfl, rfl⟩ | ⟨rfl, rfl, rfl⟩ | ⟨rfl, rfl, rfl⟩ | ⟨rfl, rfl, rfl⟩⟩ := look_forms h
  all_goals
    rw [escQ, if_neg (by intro e; exact absurd e.2 (by decide)), h]
    rfl
theorem escQ_none {q : Bool} {c : UInt8} {r : List UInt8} (h : lookL (c :: r) = none) (hq : ¬(q = true ∧ c = 34)) : escQ q (c :: r) = c :: escQ q r := by
  rw [escQ, if_neg hq, h]
theorem esc_ind (q : Bool) {P : List UInt8 → Prop} (h0 : P []) (hq : q = true → ∀ r, P r → P (34 :: r)) (hs : ∀ l t n, lookL l = some (t, n) → P (l.drop n) → P l) (hn : ∀ c r, lookL (c :: r) = none → ¬(q = true ∧ c = 34) → P r → P (c :: r)) : ∀ (k : Nat) (l : List UInt8), l.length ≤ k → P l
  | _, [], _ => h0
  | 0, c :: r, h => absurd h (by simp)
  | k + 1, c :: r, h => by
    by_cases e : q = true ∧ c = 34
    · obtain ⟨e1, rfl⟩ := e
      exact hq e1 r (esc_ind q h0 hq hs hn k r (by simpa using h))
    · cases hl : lookL (c :: r) with
      | none => exact hn c r hl e (esc_ind q h0 hq hs hn k r (by simpa using h))
      | some p =>
        obtain ⟨t, n⟩ := p
        have hp := lookL_some hl
        exact hs _ t n hl (esc_ind q h0 hq hs hn k _ (by rw [List.length_drop]; simp only [List.length_cons] at h ⊢; omega))
theorem escG_Q (l : List UInt8) : escG l = escQ false l := by
  refine esc_ind false (P := fun l => escG l = escQ false l) ?_ ?_ ?_ ?_ l.length l (Nat.le_refl _)
  · rw [escQ_nil, escG]
  · intro h; cases h
  · intro l t n h ih
    rw [escQ_some h, escG_some h, ih]
  · intro c r h hq ih
    rw [escQ_none h hq, escG_none h, ih]
theorem look_off38 {c : UInt8} {r : List UInt8} (h : lookL (c :: r) = none) : c ≠ 38 ∧ c ≠ 60 ∧ c ≠ 62 := by
  refine ⟨?_, ?_, ?_⟩ <;> (rintro rfl; cases h)
theorem before_app {c : UInt8} {k : List UInt8} (hk : c ∉ k) (X : List UInt8) : beforeC c (k ++ c :: X) = k ∧ afterC c (k ++ c :: X) = X ∧ hasC c (k ++ c :: X) = true := by
  refine ⟨?_, ?_, by simp [hasC]⟩
  · induction k with
    | nil => simp [beforeC]
    | cons a k ih =>
      have h1 : (a != c) = true := by rw [bne_iff_ne]; rintro rfl; exact hk (by simp)
      have h2 := ih (fun h => hk (List.mem_cons_of_mem _ h))
      unfold beforeC at h2 ⊢
      rw [List.cons_append, List.takeWhile_cons, h1]
      simp only [if_true]
      rw [h2]
  · induction k with
    | nil => simp [afterC]
    | cons a k ih =>
      have h1 : (a != c) = true := by rw [bne_iff_ne]; rintro rfl; exact hk (by simp)
      have h2 := ih (fun h => hk (List.mem_cons_of_mem _ h))
      unfold afterC at h2 ⊢
      rw [List.cons_append, List.dropWhile_cons, h1]
      simp only [if_true]
      exact h2
theorem cons_off {c : UInt8} (hc : c ≠ 38) (r : List UInt8) : beforeC 38 (c :: r) = c :: beforeC 38 r ∧ afterC 38 (c :: r) = afterC 38 r ∧ hasC 38 (c :: r) = hasC 38 r := by
  have h1 : (c != 38) = true := by rw [bne_iff_ne]; exact hc
  refine ⟨?_, ?_, ?_⟩
  · unfold beforeC; rw [List.takeWhile_cons, h1]; rfl
  · unfold afterC; rw [List.dropWhile_cons, h1]; rfl
  · unfold hasC
    congr 1
    rw [List.mem_cons, eq_iff_iff]
    exact ⟨fun h => h.elim (fun e => absurd e.symm hc) id, .inr⟩
theorem decE_nil : decE [] = [] := decE_no rfl
theorem decE_cons {c : UInt8} (hc : c ≠ 38) (r : List UInt8) : decE (c :: r) = c :: decE r := by
  obtain ⟨e1, e2, e3⟩ := cons_off hc r
  cases h : hasC 38 r with
  | false => rw [decE_no h, decE_no (e3.trans h)]
  | true => rw [decE_yes h, decE_yes (e3.trans h), e1, e2, List.cons_append]
theorem decE_amp (r : List UInt8) : decE (38 :: r) = if 0 < (refN r).2 then runeL (refN r).1 ++ decE (r.drop (refN r).2) else 38 :: decE r := by
  have e1 : beforeC 38 (38 :: r) = [] := by simp [beforeC]
  have e2 : afterC 38 (38 :: r) = r := by simp [afterC]
  rw [decE_yes (by simp [hasC]), e1, e2, List.nil_append]
theorem refN_at {k : List UInt8} (hk : (59 : UInt8) ∉ k) (hl : k.length ≤ 8) (X : List UInt8) : refN (k ++ 59 :: X) = match sgn k with | some x => (x, k.length + 1) | none => (0, 0) := by
  have e : (k ++ 59 :: X).take 9 = k ++ 59 :: X.take (8 - k.length) := by
    rw [List.take_append, List.take_of_length_le (by omega)]
    obtain ⟨m, hm⟩ : ∃ m, 9 - k.length = m + 1 := ⟨8 - k.length, by omega⟩
    rw [hm, List.take_succ_cons, show m = 8 - k.length by omega]
  obtain ⟨e1, e2, e3⟩ := before_app hk (X.take (8 - k.length))
  unfold refN
  rw [e, e1, e3]
  cases sgn k <;> rfl
theorem dec_ref {k : List UInt8} {x : Int} (hk : (59 : UInt8) ∉ k) (hl : k.length ≤ 8) (hs : sgn k = some x) (X : List UInt8) : decE (38 :: (k ++ 59 :: X)) = runeL x ++ decE X := by
  rw [decE_amp, refN_at hk hl, hs]
  simp only
  rw [if_pos (Nat.succ_pos _), show (k ++ 59 :: X).drop (k.length + 1) = X by rw [List.drop_append]; simp]
theorem dec_esc (q : Bool) (l : List UInt8) : decE (escQ q l) = l := by
  refine esc_ind q (P := fun l => decE (escQ q l) = l) ?_ ?_ ?_ ?_ l.length l (Nat.le_refl _)
  · rw [escQ_nil, decE_nil]
  · rintro rfl r ih
    rw [escQ_quote]
    have := dec_ref (k := [113, 117, 111, 116]) (x := 34) (by decide) (by decide) (by decide) (escQ true r)
    rw [ih] at this
    exact this
  · intro l t n h ih
    rw [escQ_some h]
    obtain ⟨r, ⟨rfl, rfl, rfl⟩ | ⟨rfl, rfl, rfl⟩ | ⟨rfl, rfl, rfl⟩ | ⟨rfl, rfl, rfl⟩⟩ := look_forms h
    · have := dec_ref (k := [97, 109, 112]) (x := 38) (by decide) (by decide) (by decide) (escQ q r)
      exact this.trans (congrArg _ ih)
    · have := dec_ref (k := [108, 116]) (x := 60) (by decide) (by decide) (by decide) (escQ q r)
      exact this.trans (congrArg _ ih)
    · have := dec_ref (k := [103, 116]) (x := 62) (by decide) (by decide) (by decide) (escQ q r)
      exact this.trans (congrArg _ ih)
    · have := dec_ref (k := [110, 98, 115, 112]) (x := 160) (by decide) (by decide) (by decide) (escQ q r)
      exact this.trans (congrArg _ ih)
  · intro c r h hq ih
    rw [escQ_none h hq, decE_cons (look_off38 h).1, ih]
theorem name_one (c : UInt8) : nameN [c] = none := u8_all (p := fun c => nameN [c] = none) (by decide +kernel) c
theorem sgn_two {k : List UInt8} {x : Int} (h : sgn k = some x) : 2 ≤ k.length := by
  match k, h with
  | [], h => rw [show sgn [] = none by decide] at h; cases h
  | [c], h =>
    by_cases hc : c = 35
    · subst hc
      rw [show sgn [35] = none by decide] at h; cases h
    · unfold sgn at h
      split at h
      · rename_i hp
        have : 35 = c := by simpa [Lib.hasPrefix] using hp
        exact absurd this.symm hc
      · rw [name_one] at h; cases h
  | _ :: _ :: _, _ => simp
theorem refN_three {l : List UInt8} (h : 0 < (refN l).2) : 3 ≤ (refN l).2 := by
  unfold refN at h ⊢
  split
  · rename_i x h1 h2
    have := sgn_two h1
    show 3 ≤ _ + 1
    omega
  · rename_i hno
    split at h
    · rename_i x h1 h2
      exact absurd h2 (by intro h2; exact hno x h1 h2)
    · exact absurd h (by decide)
theorem decE_len : ∀ (k : Nat) (l : List UInt8), l.length ≤ k → (decE l).length ≤ l.length
  | _, [], _ => by rw [decE_nil]; exact Nat.le_refl _
  | 0, c :: r, h => absurd h (by simp)
  | k + 1, c :: r, h => by
    by_cases hc : c = 38
    · subst hc
      rw [decE_amp]
      split
      · rename_i hn
        have h3 := refN_three hn
        have hle := (refN_ok r).2
        have hr := (runeL_length (refN r).1).2.1
        have := decE_len k (r.drop (refN r).2) (by rw [List.length_drop]; simp only [List.length_cons] at h; omega)
        rw [List.length_drop] at this
        rw [List.length_append, List.length_cons]
        omega
      · have := decE_len k r (by simpa using h)
        simp only [List.length_cons]; omega
    · have := decE_len k r (by simpa using h)
      rw [decE_cons hc]
      simp only [List.length_cons]; omega
theorem esc_no (q : Bool) (l : List UInt8) : ∀ c ∈ escQ q l, c ≠ 60 ∧ c ≠ 62 ∧ (q = true → c ≠ 34) := by
  refine esc_ind q (P := fun l => ∀ c ∈ escQ q l, c ≠ 60 ∧ c ≠ 62 ∧ (q = true → c ≠ 34)) ?_ ?_ ?_ ?_ l.length l (Nat.le_refl _)
  · intro c h; rw [escQ_nil] at h; cases h
  · rintro rfl r ih c h
    rw [escQ_quote, List.mem_append] at h
    rcases h with h | h
    · have : ∀ c ∈ quT, c ≠ 60 ∧ c ≠ 62 ∧ c ≠ 34 := by decide
      obtain ⟨a1, a2, a3⟩ := this c h
      exact ⟨a1, a2, fun _ => a3⟩
    · exact ih c h
  · intro l t n h ih c hc
    rw [escQ_some h, List.mem_append] at hc
    rcases hc with hc | hc
    · have : ∀ c ∈ t, c ≠ 60 ∧ c ≠ 62 ∧ c ≠ 34 := by
        obtain ⟨r, ⟨rfl, rfl, rfl⟩ | ⟨rfl, rfl, rfl⟩ | ⟨rfl, rfl, rfl⟩ | ⟨rfl, rfl, rfl⟩⟩ := look_forms h <;> decide
      obtain ⟨a1, a2, a3⟩ := this c hc
      exact ⟨a1, a2, fun _ => a3⟩
    · exact ih c hc
  · intro c r h hq ih x hx
    rw [escQ_none h hq, List.mem_cons] at hx
    rcases hx with rfl | hx
    · obtain ⟨h1, h2, h3⟩ := look_off38 h
      exact ⟨h2, h3, fun e => fun e' => hq ⟨e, e'⟩⟩
    · exact ih x hx
theorem esc_len (q : Bool) (l : List UInt8) : (escQ q l).length ≤ 6 * l.length := by
  refine esc_ind q (P := fun l => (escQ q l).length ≤ 6 * l.length) ?_ ?_ ?_ ?_ l.length l (Nat.le_refl _)
  · rw [escQ_nil]; exact Nat.le_refl _
  · rintro rfl r ih
    rw [escQ_quote, List.length_append, show quT.length = 6 from rfl, List.length_cons]; omega
  · intro l t n h ih
    have hp := lookL_some h
    rw [List.length_drop] at ih
    rw [escQ_some h, List.length_append]; omega
  · intro c r h hq ih
    rw [escQ_none h hq, List.length_cons, List.length_cons]; omega
theorem repK_one (c : UInt8) (new : List UInt8) : ∀ l : List UInt8, Lib.replaceK [c] new (Lib.count l [c]) l = l.flatMap (fun x => if x = c then new else [x])
  | [] => by
    rw [Lib.count_one]
    rfl
  | b :: r => by
    have ih := repK_one c new r
    by_cases hb : b = c
    · subst hb
      rw [Lib.count_cons_eq, Nat.add_comm, Lib.replaceK_hit [b] new _ _ 0 (by rw [Lib.index_one]; simp [Lib.indexByte])]
      rw [List.flatMap_cons, if_pos rfl]
      show [] ++ new ++ Lib.replaceK [b] new (Lib.count r [b]) r = _
      rw [ih, List.nil_append]
    · rw [Lib.count_cons_ne b c r hb, List.flatMap_cons, if_neg hb, ← ih]
      cases hn : Lib.count r [c] with
      | zero => rfl
      | succ k =>
        obtain ⟨i, hi⟩ := Lib.index_of_count (s := r) (old := [c]) (by rw [hn]; exact Nat.succ_pos _)
        have hi2 : Lib.index (b :: r) [c] = ((i + 1 : Nat) : Int) := by
          rw [Lib.index_one] at hi ⊢
          have h1 : (b == c) = false := by simp [hb]
          have h2 : ((i : Int) == -1) = false := by rw [beq_eq_false_iff_ne]; omega
          simp [Lib.indexByte, h1, hi, h2]
        rw [Lib.replaceK_hit [c] new k _ _ hi2, Lib.replaceK_hit [c] new k _ _ hi]
        simp [Nat.add_right_comm]
theorem repAll_one (c : UInt8) (new : List UInt8) (hne : ([c] == new) = false) (l : List UInt8) : Lib.replaceAll l [c] new = l.flatMap (fun x => if x = c then new else [x]) := by
  unfold Lib.replaceAll Lib.replace Lib.replaceNum
  rw [hne, if_neg (by decide), if_pos (.inl (by decide)), repK_one]
theorem escQ_value (l : List UInt8) : escQ true l = Lib.replaceAll (escQ false l) [34] quT := by
  rw [repAll_one 34 quT (by decide)]
  refine esc_ind true (P := fun l => escQ true l = (escQ false l).flatMap (fun x => if x = 34 then quT else [x])) ?_ ?_ ?_ ?_ l.length l (Nat.le_refl _)
  · rw [escQ_nil, escQ_nil]; rfl
  · intro _ r ih
    rw [escQ_quote, escQ_none (q := false) (c := 34) (r := r) rfl (by intro e; cases e.1), List.flatMap_cons, if_pos rfl, ih]
  · intro l t n h ih
    rw [escQ_some h, escQ_some h, List.flatMap_append, ← ih]
    congr 1
    obtain ⟨r, ⟨rfl, rfl, rfl⟩ | ⟨rfl, rfl, rfl⟩ | ⟨rfl, rfl, rfl⟩ | ⟨rfl, rfl, rfl⟩⟩ := look_forms h <;> decide
  · intro c r h hq ih
    rw [escQ_none h hq, escQ_none h (by intro e; cases e.1), List.flatMap_cons, if_neg (by intro e; exact hq ⟨rfl, e⟩), ← ih]
    rfl
end Go.Proofs.YtiejmkjpgjbodaaGreatDoor

namespace Go.Proofs.YtiejmkjpgjbodaaGreatDoor
set_option linter.unusedVariables false
set_option linter.unusedSimpArgs false
def kindN (z : Int) : Nat := if z = 1 then 1 else if z = 2 then 2 else if z = 3 then 3 else 0
def toL (p : TokG) : TokL := ⟨kindN p.1, p.2.name, p.2.attrs, p.2.text⟩
def tokG (p : TokG) : List UInt8 := tokW (escQ false) (escQ true) (toL p)
def writeG (l : List TokG) : List UInt8 := l.flatMap tokG
theorem toL_kind {p : TokG} {n : Nat} (h : kindN p.1 = n) : (toL p).kind = n := h
theorem tokG_chars {p : TokG} (h : p.1 = 1) : tokG p = escQ false p.2.text := by
  have e : (toL p).kind = 1 := toL_kind (by rw [h]; rfl)
  unfold tokG tokW
  rw [if_pos e]; rfl
theorem tokG_start {p : TokG} (h : p.1 = 2) : tokG p = 60 :: (p.2.name ++ (attrsW (escQ true) p.2.attrs ++ [62])) := by
  have e : (toL p).kind = 2 := toL_kind (by rw [h]; rfl)
  unfold tokG tokW
  rw [if_neg (by rw [e]; decide), if_pos e]; rfl
theorem tokG_end {p : TokG} (h : p.1 = 3) : tokG p = 60 :: 47 :: (p.2.name ++ [62]) := by
  have e : (toL p).kind = 3 := toL_kind (by rw [h]; rfl)
  unfold tokG tokW
  rw [if_neg (by rw [e]; decide), if_neg (by rw [e]; decide), if_pos e]; rfl
theorem tokG_none {p : TokG} (h1 : p.1 ≠ 1) (h2 : p.1 ≠ 2) (h3 : p.1 ≠ 3) : tokG p = [] := by
  have e : (toL p).kind = 0 := toL_kind (by unfold kindN; rw [if_neg h1, if_neg h2, if_neg h3])
  unfold tokG tokW
  rw [if_neg (by rw [e]; decide), if_neg (by rw [e]; decide), if_neg (by rw [e]; decide)]
def wfitA (a : AtL) : Bool := decide (a.1.length ≤ 100000) && decide (a.2.length ≤ 100000)
def wfitT (t : TokL) : Bool := decide (t.name.length ≤ 100000) && (decide (t.text.length ≤ 100000) && (decide (t.attrs.length ≤ 40) && t.attrs.all wfitA))
theorem wfitT_len {t : TokL} (h : wfitT t = true) : t.name.length ≤ 100000 ∧ t.text.length ≤ 100000 ∧ t.attrs.length ≤ 40 ∧ ∀ a ∈ t.attrs, a.1.length ≤ 100000 ∧ a.2.length ≤ 100000 := by
  unfold wfitT at h
  simp only [Bool.and_eq_true, decide_eq_true_eq, List.all_eq_true, wfitA] at h
  exact ⟨h.1, h.2.1, h.2.2.1, h.2.2.2⟩
theorem wattrsW_len {A : List AtL} (h : ∀ a ∈ A, a.1.length ≤ 100000 ∧ a.2.length ≤ 100000) : (attrsW (escQ true) A).length ≤ 700004 * A.length := by
  unfold attrsW
  induction A with
  | nil => simp
  | cons a r ih =>
    have h1 := h a (List.mem_cons_self ..)
    have h2 := ih (fun x hx => h x (List.mem_cons_of_mem _ hx))
    have h3 := esc_len true a.2
    rw [List.flatMap_cons, List.length_append, List.length_cons]
    have e : (attrW (escQ true) a).length = a.1.length + (escQ true a.2).length + 4 := by
      unfold attrW; simp only [List.length_cons, List.length_append, List.length_nil]; omega
    rw [e]; omega
theorem wtokG_len {p : TokG} (h : wfitT p.2 = true) : (tokG p).length ≤ 28400000 := by
  obtain ⟨h1, h2, h3, h4⟩ := wfitT_len h
  by_cases k1 : p.1 = 1
  · rw [tokG_chars k1]; have := esc_len false p.2.text; omega
  by_cases k2 : p.1 = 2
  · rw [tokG_start k2]
    have := wattrsW_len h4
    simp only [List.length_cons, List.length_append, List.length_nil]; omega
  by_cases k3 : p.1 = 3
  · rw [tokG_end k3]; simp only [List.length_cons, List.length_append, List.length_nil]; omega
  rw [tokG_none k1 k2 k3]; exact Nat.zero_le _
theorem wwriteG_len {l : List TokG} (h : ∀ p ∈ l, wfitT p.2 = true) : (writeG l).length ≤ 28400000 * l.length := by
  unfold writeG
  induction l with
  | nil => simp
  | cons p r ih =>
    have h1 := wtokG_len (h p (List.mem_cons_self ..))
    have h2 := ih (fun x hx => h x (List.mem_cons_of_mem _ hx))
    rw [List.flatMap_cons, List.length_append, List.length_cons]; omega
instance decTK2 : DecidableEq (List UInt8 × List AtL) := inferInstance
instance decTK1 : DecidableEq (List UInt8 × List UInt8 × List AtL) := inferInstance
instance decTK0 : DecidableEq (Int × List UInt8 × List UInt8 × List AtL) := inferInstance
theorem low_of {l : List UInt8} (h : ∀ x ∈ l, lowC x = x) : lowL l = l := by
  unfold lowL
  exact (List.map_congr_left h).trans (List.map_id _)
theorem escOK : EscOK decE (escQ false) (escQ true) := by
  refine ⟨fun x h => (esc_no false x 60 h).1 rfl, dec_esc false, fun x hx e => ?_, fun x h => (esc_no true x 34 h).2.2 rfl rfl, dec_esc true⟩
  apply hx
  rw [← dec_esc false x, e]
  exact decE_nil
end Go.Proofs.YtiejmkjpgjbodaaGreatDoor

namespace Go.Proofs.YtiejmkjpgjbodaaGreatDoor
open Go.RowKit
set_option linter.unusedVariables false
set_option linter.unusedSimpArgs false
set_option maxRecDepth 100000
theorem below_of13 {w w' : World} (h : ∃ m, w' = w.drewN m) : Below w.heap.size w w' := by
  obtain ⟨m, rfl⟩ := h
  exact ⟨rfl, rfl, rfl, Nat.le_refl _, fun _ _ => rfl⟩
theorem drew_on {w w' : World} (h : ∃ m, w' = w.drewN m) (n : Nat) : ∃ m, w'.drewN n = w.drewN m := by
  obtain ⟨m, rfl⟩ := h
  exact ⟨m + n, by rw [World.drewN_drewN]⟩
set_option maxHeartbeats 2000000 in
theorem sameAttrs_any (v1 v2 : Value) (l1 l2 : List AtL) (w : World) (h1 : AttrsIn w v1 l1) (h2 : AttrsIn w v2 l2) (hn : l1.length ≤ 1048576) :
    Calls Tryz.prog 46 #[v1, v2] w fun e w' => e = .returned (.bool (decide (l1 = l2))) ∧ ∃ m, w' = w.drewN m := by
  obtain ⟨A1, c1, rfl⟩ := h1.form
  obtain ⟨A2, c2, rfl⟩ := h2.form
  have H1 := hide h1
  have H2 := hide h2
  clear h1 h2
  by_cases hl : l1.length = l2.length
  · have t0 : ((l1.length : Int) == l2.length) = true := by rw [beq_iff_eq]; omega
    have t1 : ((l1.length : Int) != l2.length) = false := by rw [bne, t0]; rfl
    go_enter Tryz.func46, Tryz.ntmps46
    go_wp2_with fail
    go_loopw [5] (fun i wr => ∃ k : Nat, k ≤ l1.length ∧ i = .int .i64 k ∧ Hid (∃ m, wr = w.drewN m) ∧ Hid (l1.take k = l2.take k)) (fun i _ => l1.length - (intOf i).toNat)
    case atStart => exact ⟨0, Nat.zero_le _, rfl, hide ⟨0, rfl⟩, hide rfl⟩
    case round =>
      obtain ⟨k, hk, rfl, HB, HG⟩ := hrel
      by_cases hlt : k < l1.length
      · obtain ⟨f, hf⟩ : ∃ f, l1[k]? = some f := ⟨_, List.getElem?_eq_getElem hlt⟩
        obtain ⟨g, hg⟩ : ∃ g, l2[k]? = some g := ⟨_, List.getElem?_eq_getElem (by omega)⟩
        obtain ⟨a, ha, hc1, hc2⟩ := (H1.out.kept (below_of13 HB.out)).at k f hf
        obtain ⟨b, hb, hd1, hd2⟩ := (H2.out.kept (below_of13 HB.out)).at k g hg
        subst ha hb
        have hlt2 : k < l2.length := by omega
        obtain ⟨X1, hX1⟩ : ∃ X, X = str f.1 := ⟨_, rfl⟩
        obtain ⟨X2, hX2⟩ : ∃ X, X = str f.2 := ⟨_, rfl⟩
        obtain ⟨Y1, hY1⟩ : ∃ X, X = str g.1 := ⟨_, rfl⟩
        obtain ⟨Y2, hY2⟩ : ∃ X, X = str g.2 := ⟨_, rfl⟩
        rw [← hX1] at hc1
        rw [← hX2] at hc2
        rw [← hY1] at hd1
        rw [← hY2] at hd2
        by_cases he : f = g
        · have e1 : X1 = Y1 := by rw [hX1, hY1, he]
          have e2 : X2 = Y2 := by rw [hX2, hY2, he]
          subst e1 e2
          have HN : Hid (l1.take (k + 1) = l2.take (k + 1)) := hide (by rw [List.take_add_one, List.take_add_one, HG.out, hf, hg, he])
          clear he hf hg hX1 hX2 hY1 hY2
          go_wp2_with fail
          go_quiet (fail)
          go_wp2_with fail
          go_roundw
          case rel => exact ⟨k + 1, by omega, by go_num, hide (drew_on HB.out nq), HN⟩
          case measure => simp [intOf]; omega
        · have HD : Hid (decide (l1 = l2) = false) := hide (decide_eq_false (fun e => he (by rw [e, hg] at hf; exact (Option.some.inj hf).symm)))
          by_cases he1 : f.1 = g.1
          · have he2 : f.2 ≠ g.2 := fun e => he (Prod.ext he1 e)
            have e1 : X1 = Y1 := by rw [hX1, hY1, he1]
            have t2 : (X2.toList == Y2.toList) = false := by
              rw [hX2, hY2, bytes_list, bytes_list, str_toList, str_toList]; exact beq_eq_false_iff_ne.2 he2
            subst e1
            clear he he1 he2 hf hg hX1 hX2 hY1 hY2
            go_wp2_with fail
            go_quiet (fail)
            go_wp2_with fail
            go_ret
            exact ⟨ret_bool HD.out.symm, drew_on HB.out nq⟩
          · have t2 : (X1.toList == Y1.toList) = false := by
              rw [hX1, hY1, bytes_list, bytes_list, str_toList, str_toList]; exact beq_eq_false_iff_ne.2 he1
            clear he he1 hf hg hX1 hX2 hY1 hY2
            go_wp2_with fail
            go_quiet (fail)
            go_wp2_with fail
            go_ret
            exact ⟨ret_bool HD.out.symm, drew_on HB.out nq⟩
      · have HD : Hid (decide (l1 = l2) = true) := hide (by
          have := HG.out
          rw [List.take_of_length_le (by omega), List.take_of_length_le (by omega)] at this
          exact decide_eq_true this)
        go_wp2_with fail
        go_ret
        exact ⟨ret_bool HD.out.symm, HB.out⟩
  · have t0 : ((l1.length : Int) == l2.length) = false := by rw [beq_eq_false_iff_ne]; omega
    have t1 : ((l1.length : Int) != l2.length) = true := by rw [bne, t0]; rfl
    have HD : Hid (decide (l1 = l2) = false) := hide (decide_eq_false (fun e => hl (by rw [e])))
    clear hl
    go_enter Tryz.func46, Tryz.ntmps46
    go_wp2_with fail
    go_ret
    exact ⟨ret_bool HD.out.symm, 0, rfl⟩
end Go.Proofs.YtiejmkjpgjbodaaGreatDoor

namespace Go.Proofs.YtiejmkjpgjbodaaGreatDoor
open Go.RowKit
set_option linter.unusedVariables false
set_option linter.unusedSimpArgs false
set_option maxRecDepth 100000
def attrsFew (p : NdH) : Bool := decide (p.attrs.length ≤ 1048576)
def SameP (N : Nat) : Prop := ∀ (v1 v2 : Value) (t1 t2 : Tr) (w : World), t1.count < N → N ≤ 1048576 → NodesIn w v1 t1 → NodesIn w v2 t2 → t1.all attrsFew = true →
    Calls Tryz.prog 14 #[v1, v2] w fun e w' => e = .returned (.bool (decide (t1 = t2))) ∧ ∃ m, w' = w.drewN m
set_option maxHeartbeats 8000000 in
theorem same14_step (n : Nat) (IH : SameP n) : SameP (n + 1) := by
  intro v1 v2 t1 t2 w hn hN h1 h2 ha
  have hn1 : t1.len ≤ 1048576 := Nat.le_trans (Tr.len_count t1) (by omega)
  obtain ⟨A1, c1, rfl⟩ := NodesC.form h1
  obtain ⟨A2, c2, rfl⟩ := NodesC.form h2
  have H1 := hide h1
  have H2 := hide h2
  have HAL := hide ha
  have HIH := hide IH
  clear h1 h2 ha IH
  by_cases hl : t1.len = t2.len
  · have t0 : ((t1.len : Int) == t2.len) = true := by rw [beq_iff_eq]; omega
    have t1x : ((t1.len : Int) != t2.len) = false := by rw [bne, t0]; rfl
    go_enter Tryz.func14, Tryz.ntmps14
    go_wp2_with fail
    go_loopw [5] (fun i wr => ∃ k : Nat, k ≤ t1.len ∧ i = .int .i64 k ∧ Hid (∃ m, wr = w.drewN m) ∧ Hid (t1.list.take k = t2.list.take k)) (fun i _ => t1.len - (intOf i).toNat)
    case atStart => exact ⟨0, Nat.zero_le _, rfl, hide ⟨0, rfl⟩, hide rfl⟩
    case round =>
      obtain ⟨k, hk, rfl, HB, HG⟩ := hrel
      by_cases hlt : k < t1.len
      · obtain ⟨⟨f, K⟩, hf⟩ : ∃ f, t1.list[k]? = some f := ⟨_, List.getElem?_eq_getElem (by rw [Tr.len_list]; exact hlt)⟩
        obtain ⟨⟨g, L⟩, hg⟩ : ∃ g, t2.list[k]? = some g := ⟨_, List.getElem?_eq_getElem (by rw [Tr.len_list]; omega)⟩
        have hI1 := H1.out.kept (below_of13 HB.out)
        have hI2 := H2.out.kept (below_of13 HB.out)
        obtain ⟨a, d, x, y, z, m, ha, -, p1, p2, hA, p3, p4, hm, hK⟩ := NodesC.at hI1 k f K hf
        obtain ⟨b, d', x', y', z', m', hb, -, q1, q2, hB, q3, q4, hm', hL⟩ := NodesC.at hI2 k g L hg
        subst ha hb
        have hlt2 : k < t2.len := by omega
        have hKc := Tr.at_count hf
        obtain ⟨haf, haK⟩ := Tr.all_at HAL.out hf
        have HSA : Hid (∀ m, Calls Tryz.prog 46 #[.slice d f.attrs.length y, .slice d' g.attrs.length y'] (wr.drewN m) fun e w' => e = .returned (.bool (decide (f.attrs = g.attrs))) ∧ ∃ k, w' = (wr.drewN m).drewN k) :=
          hide fun m => sameAttrs_any _ _ _ _ _ (hA.1.kept ⟨rfl, rfl, rfl, Nat.le_refl _, fun _ _ => rfl⟩) (hB.1.kept ⟨rfl, rfl, rfl, Nat.le_refl _, fun _ _ => rfl⟩) (by simpa [attrsFew] using haf)
        have HSK : Hid (∀ q, Calls Tryz.prog 14 #[.slice x m z, .slice x' m' z'] (wr.drewN q) fun e w' => e = .returned (.bool (decide (K = L))) ∧ ∃ k, w' = (wr.drewN q).drewN k) :=
          hide fun q => HIH.out _ _ K L _ (by omega) (by omega) (NodesIn.kept hK ⟨rfl, rfl, rfl, Nat.le_refl _, fun _ _ => rfl⟩) (NodesIn.kept hL ⟨rfl, rfl, rfl, Nat.le_refl _, fun _ _ => rfl⟩) haK
        obtain ⟨X1, hX1⟩ : ∃ X, X = str f.name := ⟨_, rfl⟩
        obtain ⟨X2, hX2⟩ : ∃ X, X = str g.name := ⟨_, rfl⟩
        obtain ⟨Y1, hY1⟩ : ∃ X, X = str f.text := ⟨_, rfl⟩
        obtain ⟨Y2, hY2⟩ : ∃ X, X = str g.text := ⟨_, rfl⟩
        rw [← hX1] at p1
        rw [← hX2] at q1
        rw [← hY1] at p3
        rw [← hY2] at q3
        have HDF : Hid ((f, K) ≠ (g, L) → decide (t1 = t2) = false) := hide fun hne => decide_eq_false fun e => hne (by rw [e, hg] at hf; exact (Option.some.inj hf).symm)
        have HNX : Hid ((f, K) = (g, L) → t1.list.take (k + 1) = t2.list.take (k + 1)) := hide fun he => by rw [List.take_add_one, List.take_add_one, HG.out, hf, hg, he]
        have hxe : f.name ≠ g.name → (X1.toList == X2.toList) = false := fun h => by
          rw [hX1, hX2, bytes_list, bytes_list, str_toList, str_toList]; exact beq_eq_false_iff_ne.2 h
        have hye : f.text ≠ g.text → (Y1.toList == Y2.toList) = false := fun h => by
          rw [hY1, hY2, bytes_list, bytes_list, str_toList, str_toList]; exact beq_eq_false_iff_ne.2 h
        have hxs : f.name = g.name → X1 = X2 := fun h => by rw [hX1, hX2, h]
        have hys : f.text = g.text → Y1 = Y2 := fun h => by rw [hY1, hY2, h]
        have hne1 : f.name ≠ g.name → (f, K) ≠ (g, L) := fun h e => h (congrArg (fun z : NdH × Tr => z.1.name) e)
        have hne2 : f.text ≠ g.text → (f, K) ≠ (g, L) := fun h e => h (congrArg (fun z : NdH × Tr => z.1.text) e)
        have hne3 : f.attrs ≠ g.attrs → (f, K) ≠ (g, L) := fun h e => h (congrArg (fun z : NdH × Tr => z.1.attrs) e)
        have hne4 : K ≠ L → (f, K) ≠ (g, L) := fun h e => h (congrArg (fun z : NdH × Tr => z.2) e)
        have heq : f.name = g.name → f.text = g.text → f.attrs = g.attrs → K = L → (f, K) = (g, L) := fun e1 e2 e3 e4 => by
          rw [e4]
          congr 1
          cases f; cases g
          simp only at e1 e2 e3
          rw [e1, e2, e3]
        clear hf hg hX1 hX2 hY1 hY2 hA hB hK hL hm hm' haf haK hKc hI1 hI2
        by_cases e1 : f.name = g.name
        · have x1 := hxs e1
          subst x1
          by_cases e2 : f.text = g.text
          · have x2 := hys e2
            subst x2
            by_cases e3 : f.attrs = g.attrs
            · by_cases e4 : K = L
              · have HN : Hid (t1.list.take (k + 1) = t2.list.take (k + 1)) := hide (HNX.out (heq e1 e2 e3 e4))
                rw [decide_eq_true e3] at HSA
                rw [decide_eq_true e4] at HSK
                clear hxe hye hxs hys hne1 hne2 hne3 hne4 heq e1 e2 e3 e4
                go_wp2_with fail
                go_quiet (first | (go_at_call 46; exact Calls.quiet_of (HSA.out _)) | (go_at_call 14; exact Calls.quiet_of (HSK.out _)) | fail)
                go_wp2_with fail
                go_roundw
                case rel => exact ⟨k + 1, by omega, by go_num, hide (drew_on HB.out nq), HN⟩
                case measure => simp [intOf]; omega
              · have HD : Hid (decide (t1 = t2) = false) := hide (HDF.out (hne4 e4))
                rw [decide_eq_true e3] at HSA
                rw [decide_eq_false e4] at HSK
                clear hxe hye hxs hys hne1 hne2 hne3 hne4 heq e1 e2 e3 e4
                go_wp2_with fail
                go_quiet (first | (go_at_call 46; exact Calls.quiet_of (HSA.out _)) | (go_at_call 14; exact Calls.quiet_of (HSK.out _)) | fail)
                go_wp2_with fail
                go_ret
                exact ⟨ret_bool HD.out.symm, drew_on HB.out nq⟩
            · have HD : Hid (decide (t1 = t2) = false) := hide (HDF.out (hne3 e3))
              rw [decide_eq_false e3] at HSA
              clear hxe hye hxs hys hne1 hne2 hne3 hne4 heq e1 e2 e3
              go_wp2_with fail
              go_quiet (first | (go_at_call 46; exact Calls.quiet_of (HSA.out _)) | fail)
              go_wp2_with fail
              go_ret
              exact ⟨ret_bool HD.out.symm, drew_on HB.out nq⟩
          · have HD : Hid (decide (t1 = t2) = false) := hide (HDF.out (hne2 e2))
            have t3 := hye e2
            clear hxe hye hxs hys hne1 hne2 hne3 hne4 heq e1 e2
            go_wp2_with fail
            go_quiet (fail)
            go_wp2_with fail
            go_ret
            exact ⟨ret_bool HD.out.symm, drew_on HB.out nq⟩
        · have HD : Hid (decide (t1 = t2) = false) := hide (HDF.out (hne1 e1))
          have t2x := hxe e1
          clear hxe hye hxs hys hne1 hne2 hne3 hne4 heq e1
          go_wp2_with fail
          go_quiet (fail)
          go_wp2_with fail
          go_ret
          exact ⟨ret_bool HD.out.symm, drew_on HB.out nq⟩
      · have HD : Hid (decide (t1 = t2) = true) := hide (by
          have := HG.out
          rw [List.take_of_length_le (by rw [Tr.len_list]; omega), List.take_of_length_le (by rw [Tr.len_list]; omega)] at this
          exact decide_eq_true (Tr.list_inj this))
        go_wp2_with fail
        go_ret
        exact ⟨ret_bool HD.out.symm, HB.out⟩
  · have t0 : ((t1.len : Int) == t2.len) = false := by rw [beq_eq_false_iff_ne]; omega
    have t1x : ((t1.len : Int) != t2.len) = true := by rw [bne, t0]; rfl
    have HD : Hid (decide (t1 = t2) = false) := hide (decide_eq_false (fun e => hl (by rw [e])))
    clear hl
    go_enter Tryz.func14, Tryz.ntmps14
    go_wp2_with fail
    go_ret
    exact ⟨ret_bool HD.out.symm, 0, rfl⟩
theorem same14_all : ∀ n, SameP n
  | 0 => fun v1 v2 t1 t2 w h => absurd h (Nat.not_lt_zero _)
  | n + 1 => same14_step n (same14_all n)
theorem same14_any (v1 v2 : Value) (t1 t2 : Tr) (w : World) (hn : t1.count < 1048576) (h1 : NodesIn w v1 t1) (h2 : NodesIn w v2 t2) (ha : t1.all attrsFew = true) :
    Calls Tryz.prog 14 #[v1, v2] w fun e w' => e = .returned (.bool (decide (t1 = t2))) ∧ ∃ m, w' = w.drewN m :=
  same14_all (t1.count + 1) v1 v2 t1 t2 w (Nat.lt_succ_self _) hn h1 h2 ha
end Go.Proofs.YtiejmkjpgjbodaaGreatDoor

namespace Go.Proofs.YtiejmkjpgjbodaaGreatDoor
open Go.RowKit
set_option linter.unusedVariables false
set_option linter.unusedSimpArgs false
set_option maxRecDepth 100000
set_option maxHeartbeats 4000000 in
theorem slEqual_any (v1 v2 : Value) (l1 l2 : List AtL) (w : World) (h1 : AttrsIn w v1 l1) (h2 : AttrsIn w v2 l2) (hn : l1.length ≤ 1048576) :
    Calls Tryz.prog 77 #[v1, v2] w fun e w' => e = .returned (.bool (decide (l1 = l2))) ∧ ∃ m, w' = w.drewN m := by
  obtain ⟨A1, c1, rfl⟩ := h1.form
  obtain ⟨A2, c2, rfl⟩ := h2.form
  have H1 := hide h1
  have H2 := hide h2
  clear h1 h2
  by_cases hl : l1.length = l2.length
  · have t0 : ((l1.length : Int) == l2.length) = true := by rw [beq_iff_eq]; omega
    have t1 : ((l1.length : Int) != l2.length) = false := by rw [bne, t0]; rfl
    go_enter Tryz.func77, Tryz.ntmps77
    go_wp2_with fail
    go_loopw [13] (fun i wr => ∃ k : Nat, k ≤ l1.length ∧ i = .int .i64 k ∧ Hid (∃ m, wr = w.drewN m) ∧ Hid (l1.take k = l2.take k)) (fun i _ => l1.length - (intOf i).toNat)
    case atStart => exact ⟨0, Nat.zero_le _, rfl, hide ⟨0, rfl⟩, hide rfl⟩
    case round =>
      obtain ⟨k, hk, rfl, HB, HG⟩ := hrel
      by_cases hlt : k < l1.length
      · obtain ⟨f, hf⟩ : ∃ f, l1[k]? = some f := ⟨_, List.getElem?_eq_getElem hlt⟩
        obtain ⟨g, hg⟩ : ∃ g, l2[k]? = some g := ⟨_, List.getElem?_eq_getElem (by omega)⟩
        obtain ⟨a, ha, hc1, hc2⟩ := (H1.out.kept (below_of13 HB.out)).at k f hf
        obtain ⟨b, hb, hd1, hd2⟩ := (H2.out.kept (below_of13 HB.out)).at k g hg
        subst ha hb
        have hlt2 : k < l2.length := by omega
        obtain ⟨X1, hX1⟩ : ∃ X, X = str f.1 := ⟨_, rfl⟩
        obtain ⟨X2, hX2⟩ : ∃ X, X = str f.2 := ⟨_, rfl⟩
        obtain ⟨Y1, hY1⟩ : ∃ X, X = str g.1 := ⟨_, rfl⟩
        obtain ⟨Y2, hY2⟩ : ∃ X, X = str g.2 := ⟨_, rfl⟩
        rw [← hX1] at hc1
        rw [← hX2] at hc2
        rw [← hY1] at hd1
        rw [← hY2] at hd2
        by_cases he : f = g
        · have e1 : X1 = Y1 := by rw [hX1, hY1, he]
          have e2 : X2 = Y2 := by rw [hX2, hY2, he]
          subst e1 e2
          have HN : Hid (l1.take (k + 1) = l2.take (k + 1)) := hide (by rw [List.take_add_one, List.take_add_one, HG.out, hf, hg, he])
          clear he hf hg hX1 hX2 hY1 hY2
          rw [← hl] at *
          go_wp2_with fail
          go_quiet (fail)
          go_wp2_with fail
          go_roundw
          case rel => exact ⟨k + 1, by omega, by go_num, hide (drew_on HB.out nq), HN⟩
          case measure => simp [intOf]; omega
        · have HD : Hid (decide (l1 = l2) = false) := hide (decide_eq_false (fun e => he (by rw [e, hg] at hf; exact (Option.some.inj hf).symm)))
          by_cases he1 : f.1 = g.1
          · have he2 : f.2 ≠ g.2 := fun e => he (Prod.ext he1 e)
            have e1 : X1 = Y1 := by rw [hX1, hY1, he1]
            have t2 : (X2.toList == Y2.toList) = false := by
              rw [hX2, hY2, bytes_list, bytes_list, str_toList, str_toList]; exact beq_eq_false_iff_ne.2 he2
            subst e1
            clear he he1 he2 hf hg hX1 hX2 hY1 hY2
            go_wp2_with fail
            go_quiet (fail)
            go_wp2_with fail
            go_ret
            exact ⟨ret_bool HD.out.symm, drew_on HB.out nq⟩
          · have t2 : (X1.toList == Y1.toList) = false := by
              rw [hX1, hY1, bytes_list, bytes_list, str_toList, str_toList]; exact beq_eq_false_iff_ne.2 he1
            clear he he1 hf hg hX1 hX2 hY1 hY2
            go_wp2_with fail
            go_quiet (fail)
            go_wp2_with fail
            go_ret
            exact ⟨ret_bool HD.out.symm, drew_on HB.out nq⟩
      · have HD : Hid (decide (l1 = l2) = true) := hide (decide_eq_true (by
          have := HG.out
          rwa [List.take_of_length_le (by omega), List.take_of_length_le (by omega)] at this))
        go_wp2_with fail
        go_ret
        exact ⟨ret_bool HD.out.symm, HB.out⟩
  · have t0 : ((l1.length : Int) == l2.length) = false := by rw [beq_eq_false_iff_ne]; omega
    have t1 : ((l1.length : Int) != l2.length) = true := by rw [bne, t0]; rfl
    have HD : Hid (decide (l1 = l2) = false) := hide (decide_eq_false (fun e => hl (by rw [e])))
    clear hl
    go_enter Tryz.func77, Tryz.ntmps77
    go_wp2_with fail
    go_ret
    exact ⟨ret_bool HD.out.symm, 0, rfl⟩
def samF (g : Nat) : Value := .func (.func 76) #[] #[.pointer (some ⟨g, 0, none⟩)]
def SamC (w : World) (g : Nat) : Prop := g < w.heap.size ∧ w.cell? ⟨g, 0, none⟩ = some (samF g)
theorem SamC.kept {w w' : World} {g : Nat} (h : SamC w g) (hb : Below w.heap.size w w') : SamC w' g :=
  ⟨Nat.lt_of_lt_of_le h.1 hb.size, (World.cell?_of_block (hb.block g h.1)).trans h.2⟩
def EqfP (N : Nat) : Prop := ∀ (v1 v2 : Value) (t1 t2 : Tr) (w : World) (g : Nat), t1.count < N → N ≤ 1000000 → NodesIn w v1 t1 → NodesIn w v2 t2 → t1.all attrsFew = true → SamC w g →
    Calls Tryz.prog 78 #[v1, v2, samF g] w fun e w' => e = .returned (.bool (decide (t1 = t2))) ∧ Below w.heap.size w w'
theorem bl_two {w w1 w2 : World} (h : Below w.heap.size w w1) (h2 : Below w1.heap.size w1 w2) : Below w.heap.size w w2 := h.trans (h2.mono h.size)
set_option maxHeartbeats 8000000 in
theorem sameNode_of (N : Nat) (IH : EqfP N) (h1 h2 : NdH) (K1 K2 : Tr) (A1 A2 A3 A4 : Option Addr) (c1 c2 c3 c4 : Nat) (w : World) (g : Nat) (hN : N ≤ 1000000) (hc : K1.count < N)
    (ha1 : AttrsIn w (.slice A1 h1.attrs.length c1) h1.attrs) (ha2 : AttrsIn w (.slice A3 h2.attrs.length c3) h2.attrs) (hk1 : NodesIn w (.slice A2 K1.len c2) K1) (hk2 : NodesIn w (.slice A4 K2.len c4) K2) (hf : attrsFew h1 = true) (hff : K1.all attrsFew = true) (hs : SamC w g) :
    Calls Tryz.prog 76 #[.agg #[.string (str h1.name), .slice A1 h1.attrs.length c1, .string (str h1.text), .slice A2 K1.len c2], .agg #[.string (str h2.name), .slice A3 h2.attrs.length c3, .string (str h2.text), .slice A4 K2.len c4], .pointer (some ⟨g, 0, none⟩)] w fun e w' => e = .returned (.bool (decide ((h1, K1) = (h2, K2)))) ∧ Below w.heap.size w w' := by
  obtain ⟨X1, hX1⟩ : ∃ X, X = str h1.name := ⟨_, rfl⟩
  obtain ⟨X2, hX2⟩ : ∃ X, X = str h2.name := ⟨_, rfl⟩
  obtain ⟨Y1, hY1⟩ : ∃ X, X = str h1.text := ⟨_, rfl⟩
  obtain ⟨Y2, hY2⟩ : ∃ X, X = str h2.text := ⟨_, rfl⟩
  obtain ⟨D, hD⟩ : ∃ D, D = decide ((h1, K1) = (h2, K2)) := ⟨_, rfl⟩
  rw [← hX1, ← hX2, ← hY1, ← hY2, ← hD]
  obtain ⟨W1, hW1⟩ : ∃ W, W = w.alloc (Obj.cells #[.string X1, .slice A1 h1.attrs.length c1, .string Y1, .slice A2 K1.len c2] 33) := ⟨_, rfl⟩
  obtain ⟨W, hW⟩ : ∃ W, W = W1.alloc (Obj.cells #[.string X2, .slice A3 h2.attrs.length c3, .string Y2, .slice A4 K2.len c4] 33) := ⟨_, rfl⟩
  have hb1 : Below w.heap.size w W1 := by rw [hW1]; exact below_one w _
  have hbw : Below W1.heap.size W1 W := by rw [hW]; exact below_one W1 _
  have hb2 := bl_two hb1 hbw
  have hz1 : W1.heap.size = w.heap.size + 1 := by rw [hW1, World.size_alloc]
  have g1 : W.heap[w.heap.size]? = some (Obj.cells #[.string X1, .slice A1 h1.attrs.length c1, .string Y1, .slice A2 K1.len c2] 33 (0, 0)) := (hbw.block _ (by omega)).trans (by rw [hW1]; exact heap_alloc_new w _)
  have g2 : W.heap[w.heap.size + 1]? = some (Obj.cells #[.string X2, .slice A3 h2.attrs.length c3, .string Y2, .slice A4 K2.len c4] 33 (0, 0)) := by rw [← hz1, hW]; exact heap_alloc_new W1 _
  have hCE : ∀ w', Below w.heap.size w w' → (∀ k : Nat, k < W.heap.size → w'.heap[k]? = W.heap[k]?) → (w'.cell? ⟨w.heap.size, 1, none⟩ = some (.slice A1 h1.attrs.length c1) ∧ w'.cell? ⟨w.heap.size, 2, none⟩ = some (.string Y1) ∧ w'.cell? ⟨w.heap.size, 3, none⟩ = some (.slice A2 K1.len c2) ∧ w'.cell? ⟨w.heap.size + 1, 1, none⟩ = some (.slice A3 h2.attrs.length c3) ∧ w'.cell? ⟨w.heap.size + 1, 2, none⟩ = some (.string Y2) ∧ w'.cell? ⟨w.heap.size + 1, 3, none⟩ = some (.slice A4 K2.len c4)) ∧ w'.cell? ⟨g, 0, none⟩ = some (samF g) := fun w' hb hk => by
    have e1 := (hk _ (lt_of_block g1)).trans g1
    have e2 := (hk _ (lt_of_block g2)).trans g2
    exact ⟨⟨(Lib.cell_of_heap e1 1).trans rfl, (Lib.cell_of_heap e1 2).trans rfl, (Lib.cell_of_heap e1 3).trans rfl, (Lib.cell_of_heap e2 1).trans rfl, (Lib.cell_of_heap e2 2).trans rfl, (Lib.cell_of_heap e2 3).trans rfl⟩, (hs.kept hb).2⟩
  have HCE := hide hCE
  have HSA : Hid (∀ w', Below w.heap.size w w' → Calls Tryz.prog 77 #[.slice A1 h1.attrs.length c1, .slice A3 h2.attrs.length c3] w' fun e w'' => e = .returned (.bool (decide (h1.attrs = h2.attrs))) ∧ ∃ m, w'' = w'.drewN m) := hide (fun w' hb => slEqual_any _ _ _ _ w' (ha1.kept hb) (ha2.kept hb) (by simpa [attrsFew] using hf))
  have HEQ : Hid (∀ w', Below w.heap.size w w' → Calls Tryz.prog 78 #[.slice A2 K1.len c2, .slice A4 K2.len c4, samF g] w' fun e w'' => e = .returned (.bool (decide (K1 = K2))) ∧ Below w'.heap.size w' w'') := hide (fun w' hb => IH _ _ K1 K2 w' g hc hN (hk1.kept hb) (hk2.kept hb) hff (hs.kept hb))
  have HB2 := hide hb2
  have HW1 := hide hW1
  have HW := hide hW
  have hd1 : h1.name ≠ h2.name → D = false := fun h => by rw [hD]; exact decide_eq_false (fun e => h (congrArg (fun z : NdH × Tr => z.1.name) e))
  have hd2 : h1.text ≠ h2.text → D = false := fun h => by rw [hD]; exact decide_eq_false (fun e => h (congrArg (fun z : NdH × Tr => z.1.text) e))
  have hd3 : h1.attrs ≠ h2.attrs → D = false := fun h => by rw [hD]; exact decide_eq_false (fun e => h (congrArg (fun z : NdH × Tr => z.1.attrs) e))
  have hd4 : h1.name = h2.name → h1.text = h2.text → h1.attrs = h2.attrs → D = decide (K1 = K2) := fun e1 e2 e3 => by
    rw [hD]
    have eh : h1 = h2 := by cases h1; cases h2; simp only at e1 e2 e3; rw [e1, e2, e3]
    rw [eh]
    by_cases hk : K1 = K2
    · rw [hk]; simp
    · rw [decide_eq_false hk]; exact decide_eq_false (fun e => hk (congrArg Prod.snd e))
  clear hCE hb1 hbw hb2 hz1 g1 g2 hW1 hW ha1 ha2 hk1 hk2 hf hff hs hc hN IH hD
  by_cases n1 : h1.name = h2.name
  · obtain rfl : X1 = X2 := by rw [hX1, hX2, n1]
    by_cases n2 : h1.text = h2.text
    · obtain rfl : Y1 = Y2 := by rw [hY1, hY2, n2]
      by_cases n3 : h1.attrs = h2.attrs
      · have HD := hide (hd4 n1 n2 n3)
        rw [decide_eq_true n3] at HSA
        clear hd1 hd2 hd3 hd4 n1 n2 n3 hX1 hX2 hY1 hY2
        go_enter Tryz.func76, Tryz.ntmps76
        go_wp2_with fail
        rw [← HW1.out, ← HW.out]
        refine (HSA.out _ HB2.out).mono ?_
        rintro e w3 ⟨rfl, hq⟩
        have hb3 := bl_two HB2.out (below_of13 hq)
        obtain ⟨⟨d1, d2, d3, d4, d5, d6⟩, d7⟩ := HCE.out w3 hb3 (by obtain ⟨q, rfl⟩ := hq; intro k _; rfl)
        have HB3 := hide hb3
        clear hq hb3
        go_wp2_with fail
        refine (HEQ.out _ HB3.out).mono ?_
        rintro e w4 ⟨rfl, hb4⟩
        have HB4 := hide (bl_two HB3.out hb4)
        clear hb4
        rw [← HD.out]
        go_wp2_with fail
        go_ret
        exact ⟨rfl, HB4.out⟩
      · have HD := hide (hd3 n3)
        rw [decide_eq_false n3] at HSA
        clear hd1 hd2 hd3 hd4 n1 n2 n3 hX1 hX2 hY1 hY2
        go_enter Tryz.func76, Tryz.ntmps76
        go_wp2_with fail
        rw [← HW1.out, ← HW.out]
        refine (HSA.out _ HB2.out).mono ?_
        rintro e w3 ⟨rfl, hq⟩
        have HB3 := hide (bl_two HB2.out (below_of13 hq))
        clear hq
        go_wp2_with fail
        go_ret
        exact ⟨ret_bool HD.out.symm, HB3.out⟩
    · have HD := hide (hd2 n2)
      have t2 : (Y1.toList == Y2.toList) = false := by
        rw [hY1, hY2, bytes_list, bytes_list, str_toList, str_toList]; exact beq_eq_false_iff_ne.2 n2
      clear hd1 hd2 hd3 hd4 n1 n2 hX1 hX2 hY1 hY2
      go_enter Tryz.func76, Tryz.ntmps76
      go_wp2_with fail
      go_ret
      exact ⟨ret_bool HD.out.symm, by rw [← HW1.out, ← HW.out]; exact HB2.out⟩
  · have HD := hide (hd1 n1)
    have t2 : (X1.toList == X2.toList) = false := by
      rw [hX1, hX2, bytes_list, bytes_list, str_toList, str_toList]; exact beq_eq_false_iff_ne.2 n1
    clear hd1 hd2 hd3 hd4 n1 hX1 hX2 hY1 hY2
    go_enter Tryz.func76, Tryz.ntmps76
    go_wp2_with fail
    go_ret
    exact ⟨ret_bool HD.out.symm, by rw [← HW1.out, ← HW.out]; exact HB2.out⟩
set_option maxHeartbeats 8000000 in
theorem eqf_step (n : Nat) (IH : EqfP n) : EqfP (n + 1) := by
  intro v1 v2 t1 t2 w g hn hN h1 h2 ha hs
  have hn1 : t1.len ≤ 1048576 := Nat.le_trans (Tr.len_count t1) (by omega)
  obtain ⟨A1, c1, rfl⟩ := NodesC.form h1
  obtain ⟨A2, c2, rfl⟩ := NodesC.form h2
  have H1 := hide h1
  have H2 := hide h2
  have HAL := hide ha
  have HSC := hide hs
  have HIH := hide IH
  clear h1 h2 ha IH hs
  unfold samF
  by_cases hl : t1.len = t2.len
  · have t0 : ((t1.len : Int) == t2.len) = true := by rw [beq_iff_eq]; omega
    have t1x : ((t1.len : Int) != t2.len) = false := by rw [bne, t0]; rfl
    have HL := hide hl
    clear hl
    go_enter Tryz.func78, Tryz.ntmps78
    go_wp2_with fail
    go_loopw [17] (fun i wr => ∃ k : Nat, k ≤ t1.len ∧ i = .int .i64 k ∧ Hid (Below w.heap.size w wr) ∧ Hid (t1.list.take k = t2.list.take k)) (fun i _ => t1.len - (intOf i).toNat)
    case atStart => exact ⟨0, Nat.zero_le _, rfl, hide (Below.refl _ _), hide rfl⟩
    case round =>
      obtain ⟨k, hk, rfl, HB, HG⟩ := hrel
      by_cases hlt : k < t1.len
      · obtain ⟨⟨f, K⟩, hf⟩ : ∃ f, t1.list[k]? = some f := ⟨_, List.getElem?_eq_getElem (by rw [Tr.len_list]; exact hlt)⟩
        obtain ⟨⟨h, L⟩, hg⟩ : ∃ g, t2.list[k]? = some g := ⟨_, List.getElem?_eq_getElem (by rw [Tr.len_list]; have := HL.out; omega)⟩
        have hlt2 : k < t2.len := by have := HL.out; omega
        have hI1 := H1.out.kept HB.out
        obtain ⟨a, d, x, y, z, m, ha, -, p1, p2, hA, p3, p4, hm, hK⟩ := NodesC.at hI1 k f K hf
        subst ha hm
        have hb1 := below_one wr (Obj.cells #[.string (str f.name), .slice d f.attrs.length y, .string (str f.text), .slice x K.len z] 33)
        have hI2 := H2.out.kept (bl_two HB.out hb1)
        obtain ⟨b, d', x', y', z', m', hb, -, q1, q2, hB, q3, q4, hm', hL⟩ := NodesC.at hI2 k h L hg
        subst hb hm'
        have hKc := Tr.at_count hf
        obtain ⟨haf, haK⟩ := Tr.all_at HAL.out hf
        have hb3 := below_one (wr.alloc (Obj.cells #[.string (str f.name), .slice d f.attrs.length y, .string (str f.text), .slice x K.len z] 33)) (Obj.cells #[.string (str h.name), .slice d' h.attrs.length y', .string (str h.text), .slice x' L.len z'] 33)
        have hb2 := bl_two hb1 hb3
        have HSM := hide (sameNode_of n HIH.out f h K L d x d' x' y z y' z' _ g (by omega) (by omega) (hA.1.kept hb2) (hB.1.kept hb3) (NodesIn.kept hK hb2) (NodesIn.kept hL hb3) haf haK ((HSC.out.kept HB.out).kept hb2))
        have HB2 := hide (bl_two HB.out hb2)
        have HF := hide hf
        have HGG := hide hg
        clear hI1 hI2 hA hB hK hL hb1 hb2 hb3 hKc haf haK hf hg
        by_cases he : (f, K) = (h, L)
        · have HN : Hid (t1.list.take (k + 1) = t2.list.take (k + 1)) := hide (by rw [List.take_add_one, List.take_add_one, HG.out, HF.out, HGG.out, he])
          rw [decide_eq_true he] at HSM
          clear he HF HGG
          go_wp2_with fail
          refine HSM.out.mono ?_
          rintro e w3 ⟨rfl, hb3⟩
          have HB3 := hide (bl_two HB2.out hb3)
          clear hb3
          go_wp2_with fail
          go_roundw
          case rel => exact ⟨k + 1, by omega, by go_num, HB3, HN⟩
          case measure => simp [intOf]; omega
        · have HD : Hid (decide (t1 = t2) = false) := hide (decide_eq_false (fun e => he (by have hf := HF.out; rw [e, HGG.out] at hf; exact (Option.some.inj hf).symm)))
          rw [decide_eq_false he] at HSM
          clear he HF HGG
          go_wp2_with fail
          refine HSM.out.mono ?_
          rintro e w3 ⟨rfl, hb3⟩
          have HB3 := hide (bl_two HB2.out hb3)
          clear hb3
          go_wp2_with fail
          go_ret
          exact ⟨ret_bool HD.out.symm, HB3.out⟩
      · have HD : Hid (decide (t1 = t2) = true) := hide (decide_eq_true (by
          have := HG.out
          rw [List.take_of_length_le (by rw [Tr.len_list]; omega), List.take_of_length_le (by rw [Tr.len_list]; have := HL.out; omega)] at this
          exact Tr.list_inj this))
        go_wp2_with fail
        go_ret
        exact ⟨ret_bool HD.out.symm, HB.out⟩
  · have t0 : ((t1.len : Int) == t2.len) = false := by rw [beq_eq_false_iff_ne]; omega
    have t1x : ((t1.len : Int) != t2.len) = true := by rw [bne, t0]; rfl
    have HD : Hid (decide (t1 = t2) = false) := hide (decide_eq_false (fun e => hl (by rw [e])))
    clear hl
    go_enter Tryz.func78, Tryz.ntmps78
    go_wp2_with fail
    go_ret
    exact ⟨ret_bool HD.out.symm, Below.refl _ _⟩
theorem eqf_all : ∀ n, EqfP n
  | 0 => fun v1 v2 t1 t2 w g h => absurd h (Nat.not_lt_zero _)
  | n + 1 => eqf_step n (eqf_all n)
set_option maxHeartbeats 4000000 in
theorem serSame_any (v1 v2 : Value) (t1 t2 : Tr) (w : World) (hn : t1.count < 1000000) (h1 : NodesIn w v1 t1) (h2 : NodesIn w v2 t2) (ha : t1.all attrsFew = true) :
    Calls Tryz.prog 30 #[v1, v2] w fun e w' => e = .returned (.bool (decide (t1 = t2))) ∧ Below w.heap.size w w' := by
  obtain ⟨A1, c1, rfl⟩ := NodesC.form h1
  obtain ⟨A2, c2, rfl⟩ := NodesC.form h2
  have hmf : ∀ (fn : Fn) (first cap : Array Value) (w : World), (Instr.makeFunc fn first cap).run Tryz.prog w = .ok (.func fn first cap) w := fun _ _ _ _ => rfl
  have hst := fun (a : Addr) (w : World) (fn : Fn) (x y : Array Value) => run_store Tryz.prog w a (.func fn x y) .plain rfl
  have HQ : Hid (∀ w', Below w.heap.size w w' → SamC w' w.heap.size → Calls Tryz.prog 78 #[.slice A1 t1.len c1, .slice A2 t2.len c2, samF w.heap.size] w' fun e w'' => e = .returned (.bool (decide (t1 = t2))) ∧ Below w'.heap.size w' w'') := hide (fun w' hb hs =>
    eqf_all (t1.count + 1) _ _ t1 t2 w' w.heap.size (Nat.lt_succ_self _) (by omega) (h1.kept hb) (h2.kept hb) ha hs)
  clear h1 h2 ha
  go_enter Tryz.func30, Tryz.ntmps30
  go_wp2_with fail
  have hb := below_one w (Obj.cells #[samF w.heap.size] 102)
  refine (HQ.out _ hb ⟨by rw [World.size_alloc]; omega, (World.cell?_alloc_at _ _ _ _ rfl).trans rfl⟩).mono ?_
  rintro e w1 ⟨rfl, hb1⟩
  have HB := hide (bl_two hb hb1)
  clear hb hb1
  go_wp2_with fail
  go_ret
  exact ⟨rfl, HB.out⟩
end Go.Proofs.YtiejmkjpgjbodaaGreatDoor


namespace Go.Proofs.YtiejmkjpgjbodaaGreatDoor
open Go.RowKit
set_option linter.unusedVariables false
set_option linter.unusedSimpArgs false
set_option maxRecDepth 100000
def lnVals (l : List LnL) : List Value := l.flatMap fun f => [Value.int .i64 (f.1 : Int), Value.string (str f.2)]
theorem lnVals_append (a b : List LnL) : lnVals (a ++ b) = lnVals a ++ lnVals b := by unfold lnVals; rw [List.flatMap_append]
theorem lnVals_at {l : List LnL} {j : Nat} {f : LnL} (h : l[j]? = some f) : (lnVals l)[j * 2]? = some (.int .i64 (f.1 : Int)) ∧ (lnVals l)[j * 2 + 1]? = some (.string (str f.2)) := by
  induction l generalizing j with
  | nil => simp at h
  | cons g r ih =>
    cases j with
    | zero => simp at h; subst h; exact ⟨rfl, rfl⟩
    | succ j =>
      have := ih (j := j) (by simpa using h)
      have e : lnVals (g :: r) = Value.int .i64 (g.1 : Int) :: Value.string (str g.2) :: lnVals r := rfl
      rw [e, show (j + 1) * 2 = j * 2 + 1 + 1 by omega]
      simpa using this
theorem info_ln : (Tryz.prog.info? 40).map (fun i => (i.zero, i.size, i.bytes)) = some (some (.agg #[.int .i64 0, .string ByteArray.empty]), 2, 24) := by kernel_rfl
def LnRow (B : Nat) (v : Value) (l : List LnL) (w : World) : Prop := w.ownsRow B 40 2 v l.length (lnVals l)
theorem two_ln (w : World) (x y : Value) (t : TypeId) : (w.alloc (.cells #[x, y] t)).cell? ((⟨w.heap.size, 0, none⟩ : Addr).add 0) = some x ∧ (w.alloc (.cells #[x, y] t)).cell? ((⟨w.heap.size, 0, none⟩ : Addr).add 1) = some y := by
  have e0 : (⟨w.heap.size, 0, none⟩ : Addr).add 0 = ⟨w.heap.size, 0, none⟩ := by rw [Addr.add_lit]
  have e1 : (⟨w.heap.size, 0, none⟩ : Addr).add 1 = ⟨w.heap.size, 1, none⟩ := by rw [Addr.add_lit]
  rw [e0, e1, World.cell?_alloc_at _ _ _ _ rfl, World.cell?_alloc_at _ _ _ _ rfl]
  exact ⟨rfl, rfl⟩
theorem wpList_lns {ops : Array Oper} {rest : List Oper} {o : Oper} {a : Act} {Q : Exit → Act → World → Prop} {w : World} (hgd : o.guard = none) (s x : Operand)
    (ho : o.op = .call { callee := .builtin .append, args := #[s, x], argTypes := #[36, 36] })
    (B : Nat) (v : Value) (l : List LnL) (hs : a.eval s = v) (f : LnL) (hb : LnRow B v l w) (hB : B ≤ w.heap.size) (ad : Addr)
    (hx : a.eval x = .slice (some ad) 1 1) (h0 : w.cell? (ad.add 0) = some (.int .i64 (f.1 : Int))) (h1 : w.cell? (ad.add 1) = some (.string (str f.2))) (hlen : l.length + 1 ≤ 4398046511104)
    (h : ∀ v' w', LnRow B v' (l ++ [f]) w' → w.grownBy w' v.ownBlock → (v'.ownBlock = v.ownBlock ∨ v'.ownBlock = some w.heap.size) → wpList Tryz.prog ops Q rest (a.put o.dst v') w') : wpList Tryz.prog ops Q (o :: rest) a w := by
  obtain ⟨i0, hi, hz0, hz1, hz2⟩ := info_parts info_ln
  refine wpList_append_own2 _ hgd s x 36 ho B 40 i0 (.agg #[.int .i64 0, .string ByteArray.empty]) 2 24 Tryz.underlying36 hi hz0 hz1 hz2 rfl (by decide) v l.length (lnVals l) hs hb ad 1 1 [.int .i64 (f.1 : Int), .string (str f.2)] hx rfl ?_ ?_ (by unfold maxLen; omega) (by omega) hB ?_
  · intro j u hj
    match j, hj with
    | 0, hj => simp at hj; subst hj; exact h0
    | 1, hj => simp at hj; subst hj; exact h1
    | (j + 2), hj => simp at hj
  · intro u hu; simp at hu; rcases hu with rfl | rfl <;> rfl
  · intro v' w' ho' hg hor
    refine h v' w' ?_ hg hor
    unfold LnRow
    rw [lnVals_append, List.length_append]
    exact ho'
def LnAt (w : World) (a : Addr) (l : List LnL) : Prop := ∀ j (p : LnL), l[j]? = some p → w.cell? (a.add (j * 2)) = some (.int .i64 (p.1 : Int)) ∧ w.cell? (a.add (j * 2 + 1)) = some (.string (str p.2))
def LnIn (w : World) (v : Value) (l : List LnL) : Prop := (v = .slice none 0 0 ∧ l = []) ∨ ∃ a cap, v = .slice (some a) l.length cap ∧ l.length ≤ cap ∧ cap ≤ maxLen ∧ LnAt w a l
theorem LnAt.kept {w w' : World} {a : Addr} {l : List LnL} (h : LnAt w a l) (hb : Below w.heap.size w w') : LnAt w' a l := fun j p hj => by
  obtain ⟨c1, c2⟩ := h j p hj
  exact ⟨(hb.cell (World.block_lt_of_cell? _ _ c1)).trans c1, (hb.cell (World.block_lt_of_cell? _ _ c2)).trans c2⟩
theorem LnIn.kept {w w' : World} {v : Value} {l : List LnL} (h : LnIn w v l) (hb : Below w.heap.size w w') : LnIn w' v l := by
  rcases h with h | ⟨a, cap, h1, h2, h3, h4⟩
  · exact .inl h
  · exact .inr ⟨a, cap, h1, h2, h3, h4.kept hb⟩
theorem LnIn.form {w : World} {v : Value} {l : List LnL} (h : LnIn w v l) : ∃ a cap, v = .slice a l.length cap := by
  rcases h with ⟨rfl, rfl⟩ | ⟨a, cap, rfl, _⟩
  · exact ⟨_, _, rfl⟩
  · exact ⟨_, _, rfl⟩
theorem LnIn.some {w : World} {A : Option Addr} {n c : Nat} {l : List LnL} (h : LnIn w (.slice A n c) l) (hl : l ≠ []) : ∃ a, A = .some a ∧ n = l.length ∧ l.length ≤ c ∧ c ≤ maxLen ∧ LnAt w a l := by
  rcases h with ⟨_, h⟩ | ⟨a, cap, h1, h2, h3, h4⟩
  · exact absurd h hl
  · injection h1 with e1 e2 e3
    subst e3
    exact ⟨a, e1, e2, h2, h3, h4⟩
theorem LnAt.at {w : World} {a : Addr} {l : List LnL} (h : LnAt w a l) {j : Nat} {p : LnL} (hj : l[j]? = .some p) : w.cell? (a.add (j * 2)) = .some (.int .i64 (p.1 : Int)) ∧ w.cell? { block := (a.add (j * 2)).block, off := (a.add (j * 2)).off + 1 } = .some (.string (str p.2)) := by
  have e3 : ({ block := (a.add (j * 2)).block, off := (a.add (j * 2)).off + 1 } : Addr) = a.add (j * 2 + 1) := by rw [← Addr.add_add]; rfl
  rw [e3]; exact h j p hj
theorem LnAt.drop {w : World} {a : Addr} {l : List LnL} (h : LnAt w a l) (k : Nat) : LnAt w (a.add (k * 2)) (l.drop k) := fun j p hj => by
  rw [List.getElem?_drop] at hj
  have := h (k + j) p hj
  rw [Addr.add_add, Addr.add_add, show k * 2 + j * 2 = (k + j) * 2 by omega, show k * 2 + (j * 2 + 1) = (k + j) * 2 + 1 by omega]
  exact this
theorem LnAt.take {w : World} {a : Addr} {l : List LnL} (h : LnAt w a l) (k : Nat) : LnAt w a (l.take k) := fun j p hj => by
  rw [List.getElem?_take] at hj
  split at hj
  · exact h j p hj
  · cases hj
theorem LnRow.in {B : Nat} {v : Value} {l : List LnL} {w : World} (h : LnRow B v l w) : LnIn w v l := by
  rcases h.2 with ⟨rfl, h0⟩ | ⟨g, cap, cur, rfl, hg, hh, hc, hm, _⟩
  · exact .inl ⟨rfl, List.eq_nil_of_length_eq_zero h0⟩
  · refine .inr ⟨⟨g, 0, none⟩, cap, rfl, hc, hm, fun j p hj => ?_⟩
    obtain ⟨a1, a2⟩ := lnVals_at hj
    have h1 : w.ownsRow B 40 2 (.slice (.some ⟨g, 0, none⟩) l.length cap) l.length (lnVals l) := h
    exact ⟨h1.cells (g := g) rfl _ _ a1, h1.cells (g := g) rfl _ _ a2⟩
def lnV (p : LnL) : Value := .agg #[.int .i64 (p.1 : Int), .string (str p.2)]
def TestOK (b : Nat) (lv : Nat) (K : Nat) (f : LnL → Bool) : Prop := ∀ (p : LnL) (w : World), p.1 ≤ 20 → w.cell? ⟨b, 0, none⟩ = .some (.int .i64 (lv : Int)) →
  Calls Tryz.prog K #[lnV p, .pointer (.some ⟨b, 0, none⟩)] w fun e w' => e = .returned (.bool (f p)) ∧ Below w.heap.size w w'
theorem here_any (b lv : Nat) : TestOK b lv 72 (fun p => p.1 == lv) := by
  intro p w hp hc
  have hc2 : ∀ ob, (w.alloc ob).cell? ⟨b, 0, none⟩ = .some (.int .i64 (lv : Int)) := fun ob => ((below_one w ob).cell (World.block_lt_of_cell? _ _ hc)).trans hc
  have hr : ((p.1 : Int) == (lv : Int)) = (p.1 == lv) := by
    cases h : (p.1 == lv) with
    | true => rw [beq_iff_eq] at h ⊢; rw [h]
    | false => rw [beq_eq_false_iff_ne] at h ⊢; omega
  unfold lnV
  go_enter Tryz.func72, Tryz.ntmps72
  go_wp2_with fail
  go_ret
  exact ⟨rfl, below_one w _⟩
theorem deeper_any (b lv : Nat) : TestOK b lv 73 (fun p => decide (lv < p.1)) := by
  intro p w hp hc
  have hc2 : ∀ ob, (w.alloc ob).cell? ⟨b, 0, none⟩ = .some (.int .i64 (lv : Int)) := fun ob => ((below_one w ob).cell (World.block_lt_of_cell? _ _ hc)).trans hc
  have hr : decide ((lv : Int) < (p.1 : Int)) = decide (lv < p.1) := by
    by_cases h : lv < p.1
    · rw [decide_eq_true h, decide_eq_true (by omega)]
    · rw [decide_eq_false h, decide_eq_false (by omega)]
  unfold lnV
  go_enter Tryz.func73, Tryz.ntmps73
  go_wp2_with fail
  go_ret
  exact ⟨by rw [← hr]; rfl, below_one w _⟩
set_option maxHeartbeats 1000000 in
theorem rowSize_any (K b lv : Nat) (f : LnL → Bool) (hK : ∀ args w, (callFunc K args).run Tryz.prog w = .ok (.enter K args) w) (hT : TestOK b lv K f) (v : Value) (l : List LnL) (w : World) (hl : LnIn w v l) (hlen : l.length ≤ 1000000) (hlv : ∀ p ∈ l, p.1 ≤ 20) (hc : w.cell? ⟨b, 0, none⟩ = .some (.int .i64 (lv : Int))) :
    Calls Tryz.prog 74 #[v, .func (.func K) #[] #[.pointer (.some ⟨b, 0, none⟩)]] w fun e w' => e = .returned (.int .i64 ((l.takeWhile f).length : Int)) ∧ Below w.heap.size w w' := by
  obtain ⟨A, c, rfl⟩ := hl.form
  have H := hide hl
  have HT := hide hT
  have HLV := hide hlv
  have HC := hide hc
  clear hl hT hlv hc
  go_enter Tryz.func74, Tryz.ntmps74
  go_wp2_with fail
  go_loopw [9] (fun i wr => ∃ k : Nat, k ≤ l.length ∧ i = .int .i64 k ∧ Hid (Below w.heap.size w wr) ∧ Hid ((l.takeWhile f).length = k + ((l.drop k).takeWhile f).length)) (fun i _ => l.length - (intOf i).toNat)
  case atStart => exact ⟨0, Nat.zero_le _, rfl, hide (Below.refl _ _), hide (by simp)⟩
  case round =>
    obtain ⟨k, hk, rfl, HB, HD⟩ := hrel
    by_cases hlt : k < l.length
    · obtain ⟨p, hp⟩ : ∃ p, l[k]? = .some p := ⟨_, List.getElem?_eq_getElem hlt⟩
      have hmem : p ∈ l := List.mem_of_getElem? hp
      obtain ⟨a, rfl, hn, hcap, hmax, hat⟩ := (H.out.kept HB.out).some (fun e => by rw [e] at hlt; simp at hlt)
      obtain ⟨c0, c1⟩ := hat.at hp
      have hd : l.drop k = p :: l.drop (k + 1) := by
        rw [List.drop_eq_getElem_cons hlt]; congr 1; rw [List.getElem?_eq_getElem hlt] at hp; exact Option.some.inj hp
      have hb1 := below_one wr (Obj.cells #[.int .i64 (p.1 : Int), .string (str p.2)] 40)
      have HB1 := hide (bl_two HB.out hb1)
      have hcb : (wr.alloc (Obj.cells #[.int .i64 (p.1 : Int), .string (str p.2)] 40)).cell? ⟨b, 0, none⟩ = .some (.int .i64 (lv : Int)) := (HB1.out.cell (World.block_lt_of_cell? _ _ HC.out)).trans HC.out
      have HCL := hide (HT.out p _ (HLV.out p hmem) hcb)
      have HN : Hid ((l.takeWhile f).length = if f p = true then k + 1 + ((l.drop (k + 1)).takeWhile f).length else k) := hide (by
        rw [HD.out, hd, List.takeWhile_cons]
        split
        · rw [List.length_cons]; omega
        · simp)
      cases hf : f p with
      | true =>
        rw [hf] at HN HCL
        unfold lnV at HCL
        clear hmem hat hd hb1 hcb hcap hmax hp hf
        go_wp2_with fail
        refine HCL.out.mono ?_
        rintro e w2 ⟨rfl, hb2⟩
        have HB2 := hide (bl_two HB1.out hb2)
        go_wp2_with fail
        go_roundw
        case rel => exact ⟨k + 1, by omega, by go_num, HB2, hide (by rw [HN.out]; simp)⟩
        case measure => simp [intOf]; omega
      | false =>
        rw [hf] at HN HCL
        unfold lnV at HCL
        clear hmem hat hd hb1 hcb hcap hmax hp hf
        go_wp2_with fail
        refine HCL.out.mono ?_
        rintro e w2 ⟨rfl, hb2⟩
        have HB2 := hide (bl_two HB1.out hb2)
        go_wp2_with fail
        go_ret
        exact ⟨by rw [HN.out]; simp, HB2.out⟩
    · obtain rfl : k = l.length := by omega
      have HN : Hid ((l.takeWhile f).length = l.length) := hide (by rw [HD.out, List.drop_length]; simp)
      go_wp2_with fail
      go_ret
      exact ⟨by rw [HN.out]; rfl, HB.out⟩
end Go.Proofs.YtiejmkjpgjbodaaGreatDoor

namespace Go.Proofs.YtiejmkjpgjbodaaGreatDoor
open Go.RowKit
set_option linter.unusedVariables false
set_option linter.unusedSimpArgs false
set_option maxRecDepth 100000
section
variable {P : Program} (w : World)
theorem run_append_text2 (base : Nat) (t u ty e : TypeId) (i : TypeInfo) (ht : P.underlying t = some (.slice e)) (hu : P.underlying u = some .string) (hi : P.info? e = some i) (hz : i.zero = some (.int .u8 0))
    (hsize : i.size = 1) (hby : i.bytes = 1) (v : Value) (n : Nat) (xs : List Value) (hown : w.ownsRow base e 1 v n xs) (s : ByteArray)
    (h63 : n + s.size ≤ maxLen) (hbytes : n + s.size ≤ 140737488355328) (hbase : base ≤ w.heap.size) :
    ∃ v' w', (Builtin.append_ #[t, u] ty #[v, .string s]).run P w = .ok v' w' ∧ w'.ownsRow base e 1 v' (n + s.size) (xs ++ Lib.strCells s) ∧ w.grownBy w' v.ownBlock ∧
      (v'.ownBlock = v.ownBlock ∨ v'.ownBlock = some w.heap.size) := by
  obtain ⟨v', w', hr, h2, h3, h4⟩ := Lib.run_append_own_string (P := P) w base t u ty e i ht hu hi hz hsize hby v n xs hown s h63 hbytes hbase
  refine ⟨v', w', hr, h2, h3, ?_⟩
  have hsmall : n + s.size ≤ 9223372036854775807 := by simp only [maxLen] at h63; omega
  have hxl : xs.length = n := by simpa using hown.1
  rcases hown.2 with ⟨rfl, rfl⟩ | ⟨g, cap, cur, rfl, hbg, hg, hnc, hcm, hcs, htake⟩
  · by_cases hm : s.size = 0
    · left; rw [h4.2 ⟨rfl, hm⟩]
    · have hr2 := run_append_nil_string (P := P) w t u ty e i (.int .u8 0) ht hu hi hz s (by omega) (by omega) (by rw [hby]; omega)
      rw [hr] at hr2
      injection hr2 with e1 e2
      subst e1
      exact .inr rfl
  · by_cases hroom : n + s.size ≤ cap
    · have hcs' : cur.size = cap := by simpa using hcs
      have hr2 := Lib.run_append_room_string (P := P) w t u ty e i ht hu hi hsize g n cap cur hg s hroom (by omega)
      rw [hr] at hr2
      injection hr2 with e1 e2
      subst e1
      exact .inl rfl
    · have holds : ∀ j u, xs[j]? = some u → w.cell? ((⟨g, 0, none⟩ : Addr).add j) = some u := hown.cells (g := g) rfl
      have hr2 := Lib.run_append_grow_string (P := P) w t u ty e i (.int .u8 0) ht hu hi hz ⟨g, 0, none⟩ n cap xs (by rw [hsize]; simpa using hxl) holds s (by omega) (by omega) (by rw [hby]; exact growslice_fits (by omega) (by omega))
      rw [hr] at hr2
      injection hr2 with e1 e2
      subst e1
      exact .inr rfl
end
def ByRow (B : Nat) (v : Value) (l : List UInt8) (w : World) : Prop := w.ownsRow B 5 1 v l.length (cellsOf l)
theorem wpList_text2 {ops : Array Oper} {rest : List Oper} {o : Oper} {a : Act} {Q : Exit → Act → World → Prop} {w : World} (hgd : o.guard = none) (sl x : Operand)
    (ho : o.op = .call { callee := .builtin .append, args := #[sl, x], argTypes := #[56, 9] })
    (B : Nat) (v : Value) (l : List UInt8) (hs : a.eval sl = v) (hb : ByRow B v l w) (hB : B ≤ w.heap.size) (s : ByteArray) (hx : a.eval x = .string s) (hlen : l.length + s.size ≤ 140737488355328)
    (h : ∀ v' w', ByRow B v' (l ++ s.data.toList) w' → w.grownBy w' v.ownBlock → (v'.ownBlock = v.ownBlock ∨ v'.ownBlock = some w.heap.size) → wpList Tryz.prog ops Q rest (a.put o.dst v') w') : wpList Tryz.prog ops Q (o :: rest) a w := by
  obtain ⟨i0, hi, hz0, hz1, hz2⟩ := info_parts info_u8
  refine wpList_plain hgd fun K hK => ?_
  obtain ⟨v', w', hr, h2, h3, h4⟩ := run_append_text2 (P := Tryz.prog) w B 56 9 o.type 5 i0 Tryz.underlying56 Tryz.underlying9 hi hz0 hz1 hz2 v l.length (cellsOf l) hb s (by unfold maxLen; omega) hlen hB
  unfold Oper.wp execOp
  simp only [ho, resolve, invoke, builtin, Sem.run_bind, Sem.run_pure, Result.andThen_ok, List.map_toArray, List.map_cons, List.map_nil, hs, hx, hr]
  refine hK _ _ (h v' w' ?_ h3 h4)
  unfold ByRow
  rw [List.length_append, toList_length, cellsOf, List.map_append]
  exact h2
structure PgW (B g j : Nat) (p : PgL) (ev lv : Value) (w : World) : Prop where
  blk : ∃ cur : Array Value, w.heap[g]? = some (.cells cur 124 (0, 0)) ∧ cur[j]? = some ev ∧ cur[j + 1]? = some lv
  ln : LnRow B ev p.1 w
  bt : ByRow B lv p.2 w
  Bg : B ≤ g
structure PgF (g j : Nat) (ev lv ev' lv' : Value) (w w' : World) : Prop where
  os : w'.os = w.os
  tape : w'.tape = w.tape
  output : w'.output = w.output
  size : w.heap.size ≤ w'.heap.size
  far : ∀ k, k < w.heap.size → k ≠ g → ev.ownBlock ≠ some k → lv.ownBlock ≠ some k → w'.heap[k]? = w.heap[k]?
  row : ∀ cur, w.heap[g]? = some (.cells cur 124 (0, 0)) → ∃ cur' : Array Value, w'.heap[g]? = some (.cells cur' 124 (0, 0)) ∧ cur'.size = cur.size ∧ ∀ i, i ≠ j → i ≠ j + 1 → cur'[i]? = cur[i]?
  en : ∀ k, ev'.ownBlock = some k → ev.ownBlock = some k ∨ w.heap.size ≤ k
  ln : ∀ k, lv'.ownBlock = some k → lv.ownBlock = some k ∨ w.heap.size ≤ k
theorem PgF.refl (g j : Nat) (ev lv : Value) (w : World) : PgF g j ev lv ev lv w w :=
  ⟨rfl, rfl, rfl, Nat.le_refl _, fun _ _ _ _ _ => rfl, fun cur h => ⟨cur, h, rfl, fun _ _ _ => rfl⟩, fun _ h => .inl h, fun _ h => .inl h⟩
theorem PgF.trans {g j : Nat} {ev lv ev1 lv1 ev2 lv2 : Value} {w w1 w2 : World} (h : PgF g j ev lv ev1 lv1 w w1) (k : PgF g j ev1 lv1 ev2 lv2 w1 w2) : PgF g j ev lv ev2 lv2 w w2 := by
  refine ⟨k.os.trans h.os, k.tape.trans h.tape, k.output.trans h.output, Nat.le_trans h.size k.size, fun b h1 h2 h3 h4 => ?_, fun cur hc => ?_, fun b hb => ?_, fun b hb => ?_⟩
  · refine (k.far b (Nat.lt_of_lt_of_le h1 h.size) h2 (fun e => ?_) (fun e => ?_)).trans (h.far b h1 h2 h3 h4)
    · rcases h.en b e with e | e
      · exact h3 e
      · omega
    · rcases h.ln b e with e | e
      · exact h4 e
      · omega
  · obtain ⟨c1, a1, a2, a3⟩ := h.row cur hc
    obtain ⟨c2, b1, b2, b3⟩ := k.row c1 a1
    exact ⟨c2, b1, b2.trans a2, fun i hi hj => (b3 i hi hj).trans (a3 i hi hj)⟩
  · rcases k.en b hb with e | e
    · exact h.en b e
    · exact .inr (Nat.le_trans h.size e)
  · rcases k.ln b hb with e | e
    · exact h.ln b e
    · exact .inr (Nat.le_trans h.size e)
theorem PgW.lt {B g j : Nat} {p : PgL} {ev lv : Value} {w : World} (h : PgW B g j p ev lv w) : g < w.heap.size := by
  obtain ⟨cur, h1, _⟩ := h.blk; exact lt_of_block h1
theorem PgF.ofBelow {g j : Nat} {w w' : World} (ev lv : Value) (hb : Below w.heap.size w w') (hg : g < w.heap.size) : PgF g j ev lv ev lv w w' :=
  ⟨hb.os, hb.tape, hb.output, hb.size, fun k hk _ _ _ => hb.block k hk, fun cur h => ⟨cur, (hb.block g hg).trans h, rfl, fun _ _ _ => rfl⟩, fun _ h => .inl h, fun _ h => .inl h⟩
theorem PgW.kept {B g j : Nat} {p : PgL} {ev lv : Value} {w w' : World} (h : PgW B g j p ev lv w) (hb : Below w.heap.size w w') : PgW B g j p ev lv w' := by
  obtain ⟨cur, h1, h2, h3⟩ := h.blk
  exact ⟨⟨cur, (hb.block g (lt_of_block h1)).trans h1, h2, h3⟩, World.ownsRow.kept h.ln (grown_none hb) (by cases hv : ev.ownBlock <;> simp), World.ownsRow.kept h.bt (grown_none hb) (by cases hv : lv.ownBlock <;> simp), h.Bg⟩
theorem PgW.cells {B g j : Nat} {p : PgL} {ev lv : Value} {w : World} (h : PgW B g j p ev lv w) : w.cell? ⟨g, j, none⟩ = some ev ∧ w.cell? ⟨g, j + 1, none⟩ = some lv ∧ w.frozen? ⟨g, j, none⟩ = false ∧ w.frozen? ⟨g, j + 1, none⟩ = false := by
  obtain ⟨cur, h1, h2, h3⟩ := h.blk
  exact ⟨(Lib.cell_of_heap h1 j).trans h2, (Lib.cell_of_heap h1 (j + 1)).trans h3, Lib.frozen_of_heap h1 j, Lib.frozen_of_heap h1 (j + 1)⟩
theorem row_ne_page {w : World} {B : Nat} {e : TypeId} {sz n g : Nat} {v : Value} {xs : List Value} (h : w.ownsRow B e sz v n xs) {cur : Array Value} {T : TypeId} {fz : Nat × Nat} (hg : w.heap[g]? = some (.cells cur T fz)) (hT : e ≠ T) : v.ownBlock ≠ some g :=
  ownsRow_other h (r := g) (fun c2 e2 => by rw [hg] at e2; injection e2 with e2; injection e2 with _ e2; exact hT e2.symm)
theorem PgW.low {B g j : Nat} {p : PgL} {ev lv : Value} {w : World} (h : PgW B g j p ev lv w) : (∀ k, ev.ownBlock = some k → B ≤ k ∧ k < w.heap.size) ∧ (∀ k, lv.ownBlock = some k → B ≤ k ∧ k < w.heap.size) :=
  ⟨fun k e => World.ownsRow.lt h.ln k e, fun k e => World.ownsRow.lt h.bt k e⟩
theorem PgF.below {B g j : Nat} {p : PgL} {ev lv ev' lv' : Value} {w w' : World} (h : PgF g j ev lv ev' lv' w w') (hw : PgW B g j p ev lv w) : Below B w w' :=
  ⟨h.os, h.tape, h.output, h.size, fun k hk => h.far k (by have := hw.lt; have := hw.Bg; omega) (by have := hw.Bg; omega) (fun e => by have := (hw.low.1 k e).1; omega) (fun e => by have := (hw.low.2 k e).1; omega)⟩
theorem heap_putP {w : World} {g j : Nat} {cur : Array Value} {e : TypeId} {fr : Nat × Nat} (u : Value) (h : w.heap[g]? = some (.cells cur e fr)) : (w.setCell ⟨g, j, none⟩ u).heap[g]? = some (.cells (cur.setIfInBounds j u) e fr) := by
  have hlt := lt_of_block h
  have h' : w.heap[g] = .cells cur e fr := by simpa [Array.getElem?_eq_getElem hlt] using h
  show (w.heap.modify g _)[g]? = _
  rw [Array.getElem?_eq_getElem (by simpa using hlt), Array.getElem_modify_self, h']
  rfl
theorem putP_same {cur : Array Value} {j : Nat} {x : Value} (u : Value) (h : cur[j]? = some x) : (cur.setIfInBounds j u)[j]? = some u := by
  rw [Array.getElem?_setIfInBounds_self_of_lt]; exact (Array.getElem?_eq_some_iff.1 h).1
theorem PgW.setEv {B g j : Nat} {p : PgL} {ev lv ev' : Value} {l' : List LnL} {w w1 : World} (h : PgW B g j p ev lv w) (hr : LnRow B ev' l' w1) (hg : w.grownBy w1 ev.ownBlock) (hor : ∀ k, ev'.ownBlock = some k → ev.ownBlock = some k ∨ w.heap.size ≤ k) :
    PgW B g j (l', p.2) ev' lv (w1.setCell ⟨g, j, none⟩ ev') ∧ PgF g j ev lv ev' lv w (w1.setCell ⟨g, j, none⟩ ev') := by
  obtain ⟨cur, h1, h2, h3⟩ := h.blk
  have hne := row_ne_page h.ln h1 (by decide)
  have hg1 : w1.heap[g]? = some (.cells cur 124 (0, 0)) := (hg.block g (lt_of_block h1) (fun e => hne e.symm)).trans h1
  have hp := heap_putP (j := j) ev' hg1
  have hby : ByRow B lv p.2 w1 := World.ownsRow.kept h.bt hg (ownsRow_diff (by decide) h.bt h.ln)
  have hset : ∀ k, k ≠ g → (w1.setCell ⟨g, j, none⟩ ev').heap[k]? = w1.heap[k]? := fun k hk => Below.heap_setCell w1 ⟨g, j, none⟩ ev' k hk
  refine ⟨⟨⟨_, hp, putP_same ev' h2, by rw [Array.getElem?_setIfInBounds_ne (by omega)]; exact h3⟩, ownsRow_setCell_other hr (row_ne_page hr hg1 (by decide)) _, ownsRow_setCell_other hby (row_ne_page hby hg1 (by decide)) _, h.Bg⟩, ?_⟩
  refine ⟨hg.os, hg.tape, hg.output, by rw [World.size_setCell]; exact hg.size, fun k k1 k2 k3 k4 => (hset k k2).trans (hg.block k k1 (fun e => k3 e.symm)), fun c hc => ?_, hor, fun k e => .inl e⟩
  rw [h1] at hc
  injection hc with hc
  injection hc with hc _ _
  subst hc
  exact ⟨_, hp, by rw [Array.size_setIfInBounds], fun i hi _ => by rw [Array.getElem?_setIfInBounds_ne (fun e => hi e.symm)]⟩
theorem PgW.setLv {B g j : Nat} {p : PgL} {ev lv lv' : Value} {l' : List UInt8} {w w1 : World} (h : PgW B g j p ev lv w) (hr : ByRow B lv' l' w1) (hg : w.grownBy w1 lv.ownBlock) (hor : ∀ k, lv'.ownBlock = some k → lv.ownBlock = some k ∨ w.heap.size ≤ k) :
    PgW B g j (p.1, l') ev lv' (w1.setCell ⟨g, j + 1, none⟩ lv') ∧ PgF g j ev lv ev lv' w (w1.setCell ⟨g, j + 1, none⟩ lv') := by
  obtain ⟨cur, h1, h2, h3⟩ := h.blk
  have hne := row_ne_page h.bt h1 (by decide)
  have hg1 : w1.heap[g]? = some (.cells cur 124 (0, 0)) := (hg.block g (lt_of_block h1) (fun e => hne e.symm)).trans h1
  have hp := heap_putP (j := j + 1) lv' hg1
  have hln : LnRow B ev p.1 w1 := World.ownsRow.kept h.ln hg (ownsRow_diff (by decide) h.ln h.bt)
  have hset : ∀ k, k ≠ g → (w1.setCell ⟨g, j + 1, none⟩ lv').heap[k]? = w1.heap[k]? := fun k hk => Below.heap_setCell w1 ⟨g, j + 1, none⟩ lv' k hk
  refine ⟨⟨⟨_, hp, by rw [Array.getElem?_setIfInBounds_ne (by omega)]; exact h2, putP_same lv' h3⟩, ownsRow_setCell_other hln (row_ne_page hln hg1 (by decide)) _, ownsRow_setCell_other hr (row_ne_page hr hg1 (by decide)) _, h.Bg⟩, ?_⟩
  refine ⟨hg.os, hg.tape, hg.output, by rw [World.size_setCell]; exact hg.size, fun k k1 k2 k3 k4 => (hset k k2).trans (hg.block k k1 (fun e => k4 e.symm)), fun c hc => ?_, fun k e => .inl e, hor⟩
  rw [h1] at hc
  injection hc with hc
  injection hc with hc _ _
  subst hc
  exact ⟨_, hp, by rw [Array.size_setIfInBounds], fun i _ hi => by rw [Array.getElem?_setIfInBounds_ne (fun e => hi e.symm)]⟩
theorem PgW.clearLv {B g j : Nat} {p : PgL} {ev : Value} {A : Option Addr} {c : Nat} {w : World} (h : PgW B g j p ev (.slice A p.2.length c) w) :
    PgW B g j (p.1, []) ev (.slice A 0 c) (w.setCell ⟨g, j + 1, none⟩ (.slice A 0 c)) ∧ PgF g j ev (.slice A p.2.length c) ev (.slice A 0 c) w (w.setCell ⟨g, j + 1, none⟩ (.slice A 0 c)) := by
  refine h.setLv (l' := []) ?_ (grown_none (Below.refl _ _) |> fun g => ⟨g.os, g.tape, g.output, g.size, fun k hk _ => rfl⟩) (fun k e => .inl (by cases A with | none => cases e | some a => exact e))
  rcases h.bt.2 with ⟨h0, h1⟩ | ⟨g', cap, cur, h0, h1, h2, h3, h4, h5, h6⟩
  · injection h0 with e1 e2 e3
    subst e1 e3
    exact World.ownsRow_nil _ _ _ _
  · injection h0 with e1 e2 e3
    subst e1 e3
    exact ⟨rfl, .inr ⟨g', c, cur, rfl, h1, h2, Nat.zero_le _, h4, h5, rfl⟩⟩
end Go.Proofs.YtiejmkjpgjbodaaGreatDoor

namespace Go.Proofs.YtiejmkjpgjbodaaGreatDoor
open Go.RowKit
theorem emptyE {x : ByteArray} (h : x.data.toList = []) : x.toList.isEmpty = true := by rw [bytes_list, h]; rfl
theorem emptyN {x : ByteArray} (h : x.data.toList ≠ []) : x.toList.isEmpty = false := by
  rw [bytes_list]
  cases hx : x.data.toList with
  | nil => exact absurd hx h
  | cons _ _ => rfl
def szL (v : Value) : Nat := match v with | .string x => x.size | _ => 0
end Go.Proofs.YtiejmkjpgjbodaaGreatDoor

namespace Go.Proofs.YtiejmkjpgjbodaaGreatDoor
open Go.RowKit
set_option linter.unusedVariables false
set_option linter.unusedSimpArgs false
set_option maxRecDepth 100000
theorem LnRow.form {B : Nat} {v : Value} {l : List LnL} {w : World} (h : LnRow B v l w) : ∃ A c, v = .slice A l.length c := (LnRow.in h).form
theorem ByRow.form {B : Nat} {v : Value} {l : List UInt8} {w : World} (h : ByRow B v l w) : ∃ A c, v = .slice A l.length c := by
  rcases h.2 with ⟨rfl, h0⟩ | ⟨g, cap, cur, rfl, _⟩
  · rw [h0]; exact ⟨_, _, rfl⟩
  · exact ⟨_, _, rfl⟩
theorem ByRow.convert {B : Nat} {v : Value} {l : List UInt8} {w : World} (h : ByRow B v l w) : (convert 56 9 v).run Tryz.prog w = .ok (.string (str l)) w := by
  have hb : Buf 0 v l w w := ⟨⟨h.1, by
    rcases h.2 with h2 | ⟨g, cap, cur, h1, h2, h3⟩
    · exact .inl h2
    · exact .inr ⟨g, cap, cur, h1, Nat.zero_le _, h3⟩⟩, Below.refl _ _, Nat.zero_le _⟩
  exact hb.convert
def placeV (p : Nat × Nat) : Value := .agg #[.int .i64 (p.1 : Int), .int .i64 (p.2 : Int)]
set_option maxHeartbeats 1000000 in
theorem place_any (B g j : Nat) (p : PgL) (ev lv : Value) (w : World) (h : PgW B g j p ev lv w) :
    Calls Tryz.prog 108 #[.pointer (some ⟨g, j, none⟩)] w fun e w' => e = .returned (placeV (place p)) ∧ Below w.heap.size w w' := by
  obtain ⟨Ae, ce, rfl⟩ := h.ln.form
  obtain ⟨Al, cl, rfl⟩ := h.bt.form
  have hk : ∀ ob, PgW B g j p (.slice Ae p.1.length ce) (.slice Al p.2.length cl) (w.alloc ob).drew := fun ob => h.kept ((below_one w ob).drew)
  have c0 : ∀ ob, (w.alloc ob).drew.cell? ⟨g, j, none⟩ = some (.slice Ae p.1.length ce) := fun ob => (hk ob).cells.1
  have c1 : ∀ ob, (w.alloc ob).drew.cell? ⟨g, j + 1, none⟩ = some (.slice Al p.2.length cl) := fun ob => (hk ob).cells.2.1
  clear hk
  go_enter Tryz.func108, Tryz.ntmps108
  go_wp2_with fail
  go_region
  all_goals
    go_wp2_with fail
    refine bodyPost_ret (results_cell_row rfl _ _ w.heap.size _ _ _ _ rfl (show (w.alloc _).drew.heap[w.heap.size]? = _ from heap_alloc_new w _) Tryz.underlying126 rfl (by kernel_rfl)) rfl ?_
    exact ⟨rfl, (below_one w _).drew⟩
theorem signs_repeat (n : Nat) : Lib.repeatL [62, 32] n = signs n := by
  induction n with
  | zero => rfl
  | succ n ih => rw [signs_succ, ← ih]; rfl
set_option maxHeartbeats 1000000 in
theorem lineStr_any (x : LnL) (w : World) (hn : x.1 ≤ 4000000000000) (hl : x.2.length ≤ 4000000000000) :
    Calls Tryz.prog 110 #[lnV x] w fun e w' => e = .returned (.string (str (lineS x))) ∧ Below w.heap.size w w' := by
  have hb1 := below_one w (Obj.cells #[.int .i64 (x.1 : Int), .string (str x.2)] 40)
  have hx1 : (w.alloc (Obj.cells #[.int .i64 (x.1 : Int), .string (str x.2)] 40)).heap[w.heap.size]? = some (Obj.cells #[.int .i64 (x.1 : Int), .string (str x.2)] 40 (0, 0)) := heap_alloc_new w _
  have c0 : (w.alloc (Obj.cells #[.int .i64 (x.1 : Int), .string (str x.2)] 40)).drew.cell? ⟨w.heap.size, 0, none⟩ = some (.int .i64 (x.1 : Int)) := (Lib.cell_of_heap hx1 0).trans rfl
  have HX := hide hx1
  have HB := hide hb1
  have HC : Hid (Calls Tryz.prog 142 #[.string ⟨#[62, 32]⟩, .int .i64 (x.1 : Int)] (w.alloc (Obj.cells #[.int .i64 (x.1 : Int), .string (str x.2)] 40)).drew fun e w' => e = .returned (.string (str (signs x.1))) ∧ Below (w.heap.size + 1) (w.alloc (Obj.cells #[.int .i64 (x.1 : Int), .string (str x.2)] 40)).drew w') := hide (by
    refine (Tryz.strings_Repeat ⟨#[62, 32]⟩ x.1 _ (by omega) (by show 2 * x.1 ≤ _; omega)).mono ?_
    rintro e w' ⟨rfl, hb⟩
    refine ⟨?_, ?_⟩
    · rw [← signs_repeat]; rfl
    · have : (w.alloc (Obj.cells #[.int .i64 (x.1 : Int), .string (str x.2)] 40)).drew.heap.size = w.heap.size + 1 := World.size_alloc ..
      rw [this] at hb; exact hb)
  have HE : Hid (str (lineS x) = str (signs x.1) ++ str x.2) := hide (by unfold lineS; rw [str_append])
  obtain ⟨X, hX⟩ : ∃ X, X = str x.2 := ⟨_, rfl⟩
  obtain ⟨Y, hY⟩ : ∃ Y, Y = str (signs x.1) := ⟨_, rfl⟩
  have hXs : X.size ≤ 4000000000000 := by rw [hX, str_size]; exact hl
  have hYs : Y.size ≤ 8000000000000 := by rw [hY, str_size, signs_len]; omega
  have hsum : ¬ (9223372036854775807 < Y.size + X.size) := by omega
  clear hXs hYs
  have HXX := hide hX
  unfold lnV
  rw [← hX] at HX HB HC HE c0 ⊢
  rw [← hY] at HC HE
  clear hb1 hx1 hX hY
  go_enter Tryz.func110, Tryz.ntmps110
  go_wp2_with fail
  go_region_law (go_simp; (with_reducible refine HC.out.mono ?_); rintro e w2 ⟨rfl, hb2⟩; have c1 : w2.cell? ⟨w.heap.size, 1, none⟩ = some (.string X) := (hb2.cell (p := ⟨w.heap.size, 1, none⟩) (by show w.heap.size < _; omega)).trans ((Lib.cell_of_heap HX.out 1).trans rfl); have HB2 := hide hb2; clear hb2)
  all_goals
    go_wp2_with fail
    go_ret
    exact ⟨by rw [HE.out]; rfl, bl_two HB.out (by rw [World.size_alloc]; exact ⟨HB2.out.os, HB2.out.tape, HB2.out.output, HB2.out.size, HB2.out.block⟩)⟩
end Go.Proofs.YtiejmkjpgjbodaaGreatDoor

namespace Go.Proofs.YtiejmkjpgjbodaaGreatDoor
open Go.RowKit
set_option linter.unusedVariables false
set_option linter.unusedSimpArgs false
set_option maxRecDepth 100000
theorem run_append_noneB (w : World) (ty : TypeId) (A : Option Addr) (n c : Nat) (hn : n ≤ c) :
    (Builtin.append_ #[56, 56] ty #[.slice A n c, .slice none 0 0]).run Tryz.prog w = .ok (.slice A n c) w := by
  obtain ⟨i0, hi, hz0, hz1, hz2⟩ := info_parts info_u8
  cases A with
  | none => simp [Builtin.append_, run_underlying Tryz.underlying56, sizeOf, typeInfo, hi, Builtin.lenOf, Builtin.firstCells, hn]
  | some a => simp [Builtin.append_, run_underlying Tryz.underlying56, sizeOf, typeInfo, hi, Builtin.lenOf, Builtin.firstCells, hn, storeCells]
theorem wpList_byts {ops : Array Oper} {rest : List Oper} {o : Oper} {a : Act} {Q : Exit → Act → World → Prop} {w : World} (hgd : o.guard = none) (s x : Operand)
    (ho : o.op = .call { callee := .builtin .append, args := #[s, x], argTypes := #[56, 56] })
    (B : Nat) (v : Value) (l : List UInt8) (hs : a.eval s = v) (hb : w.ownsRow B 5 1 v (cellsOf l).length (cellsOf l)) (hB : B ≤ w.heap.size) (B2 : Nat) (u : Value) (q : List UInt8) (hx : a.eval x = u) (hu : ByRow B2 u q w) (hlen : l.length + q.length ≤ 140737488355328)
    (h : ∀ v' w', w'.ownsRow B 5 1 v' (cellsOf (l ++ q)).length (cellsOf (l ++ q)) → w.grownBy w' v.ownBlock → wpList Tryz.prog ops Q rest (a.put o.dst v') w') : wpList Tryz.prog ops Q (o :: rest) a w := by
  obtain ⟨i0, hi, hz0, hz1, hz2⟩ := info_parts info_u8
  rw [cellsOf_length] at hb
  rcases hu.2 with ⟨rfl, h0⟩ | ⟨g, cap, cur, rfl, _⟩
  · have hq : q = [] := List.eq_nil_of_length_eq_zero h0
    subst hq
    refine wpList_plain hgd fun K hK => ?_
    obtain ⟨A, c, hv, hnc⟩ : ∃ A c, v = .slice A l.length c ∧ l.length ≤ c := by
      rcases hb.2 with ⟨rfl, h0⟩ | ⟨g, cap, cur, rfl, _, _, h1, _⟩
      · exact ⟨_, _, by rw [h0], by rw [h0]; exact Nat.le_refl _⟩
      · exact ⟨_, _, rfl, h1⟩
    have hr := run_append_noneB w o.type A l.length c hnc
    rw [← hv] at hr
    unfold Oper.wp execOp
    simp only [ho, resolve, invoke, builtin, Sem.run_bind, Sem.run_pure, Result.andThen_ok, List.map_toArray, List.map_cons, List.map_nil, hs, hx, hr]
    exact hK _ _ (h v w (by rw [List.append_nil, cellsOf_length]; exact hb) ⟨rfl, rfl, rfl, Nat.le_refl _, fun _ _ _ => rfl⟩)
  · refine wpList_append_own2 _ hgd s x 56 ho B 5 i0 (.int .u8 0) 1 1 Tryz.underlying56 hi hz0 hz1 hz2 rfl (by decide) v l.length (cellsOf l) hs hb ⟨g, 0, none⟩ q.length cap (cellsOf q) hx (by rw [cellsOf_length]; omega) (World.ownsRow.cells hu (g := g) rfl) (fun u hu => by obtain ⟨b, _, rfl⟩ := List.mem_map.1 hu; rfl) (by unfold maxLen; omega) (by omega) hB ?_
    intro v' w' ho' hg _
    refine h v' w' ?_ hg
    rw [cellsOf_length, List.length_append, cellsOf, List.map_append]
    exact ho'
set_option maxHeartbeats 1000000 in
theorem writeBytes_any (B b : Nat) (l : List UInt8) (B2 : Nat) (u : Value) (q : List UInt8) (W0 w : World) (h : Bld B b l W0 w) (hu : ByRow B2 u q w) (hub : ∀ k, u.ownBlock = some k → k < B) (hlen : l.length + q.length ≤ 140737488355328) :
    Calls Tryz.prog 111 #[.pointer (some ⟨b, 0, none⟩), u] w fun e w' => e = .returned (.tuple #[.int .i64 q.length, .nilIface]) ∧ Bld B b (l ++ q) W0 w' := by
  obtain ⟨h, hbel, hBw⟩ := h
  obtain ⟨Au, cu, rfl⟩ := hu.form
  have HBL := hide hbel
  have HU := hide hu
  have HUB := hide hub
  clear hbel hu hub
  go_enter Tryz.func111, Tryz.ntmps111
  go_wp2_with fail
  refine (copyCheck_any B b (cellsOf l) _ h).mono ?_
  rintro e w1 ⟨rfl, h1, hb1⟩
  obtain ⟨hB, v, hbk, hown, hne⟩ := h1
  have c1 : w1.cell? ⟨b, 1, none⟩ = some v := by rw [Lib.cell_of_heap hbk]; rfl
  have hlt : b < w1.heap.size := lt_of_block hbk
  have hu1 : ByRow B2 (.slice Au q.length cu) q w1 := by
    refine ⟨HU.out.1, ?_⟩
    rcases HU.out.2 with h0 | ⟨g, cap, cur, e1, e2, e3, e4⟩
    · exact .inl h0
    · refine .inr ⟨g, cap, cur, e1, e2, (hb1.block g (HUB.out g (by rw [e1]; rfl))).trans e3, e4⟩
  have HU1 := hide hu1
  have HBK := hide hbk
  have HOWN := hide hown
  have HNE := hide hne
  have HB1 := hide hb1
  have hsz1 := hb1.size
  clear hbk hown hne hb1 h hu1
  go_wp2_with (refine wpList_byts rfl _ _ rfl B v l rfl HOWN.out (by omega) B2 (.slice Au q.length cu) q rfl HU1.out hlen ?_
               intro v' w2 hown' hgrow
               obtain ⟨ao, n', cap, rfl⟩ : ∃ ao n' cap, v' = .slice ao n' cap := by
                 rcases hown'.2 with ⟨hv, _⟩ | ⟨g, cap, cur, hv, _⟩
                 · exact ⟨_, _, _, hv⟩
                 · exact ⟨_, _, _, hv⟩
               have hb2 : w2.heap[b]? = some (.cells #[.pointer (some ⟨b, 0, none⟩), v] 78 (0, 0)) := by
                 rw [hgrow.block b hlt (fun e => HNE.out e.symm)]
                 exact HBK.out
               have d1 : w2.cell? ⟨b, 1, none⟩ = some v := by rw [Lib.cell_of_heap hb2]; rfl
               have f1 : w2.frozen? ⟨b, 1, none⟩ = false := Lib.frozen_of_heap hb2 1
               have HO2 := hide hown'
               have HG2 := hide hgrow
               have HB2 := hide hb2
               clear hown' hgrow hb2)
  go_ret2
  have hb3 : Below B w w2 := HB1.out.grown HG2.out (by omega) (fun k hk => (HOWN.out.lt k hk).1)
  refine ⟨rfl, .inr ?_, (HBL.out.trans hb3).setCell (p := ⟨b, 1, none⟩) hB _, ?_⟩
  · exact Lib.BuilderAt.put (T := 78) (e := 5) hB HB2.out (bs' := cellsOf (l ++ q)) HO2.out (by decide)
  · rw [World.size_setCell]; exact Nat.le_trans hBw hb3.size
end Go.Proofs.YtiejmkjpgjbodaaGreatDoor

namespace Go.Proofs.YtiejmkjpgjbodaaGreatDoor
open Go.RowKit
set_option linter.unusedVariables false
set_option linter.unusedSimpArgs false
set_option maxRecDepth 100000
theorem step_lns {ops : Array Oper} {o : Oper} {a : Act} {w : World} {K : Act → World → Prop} {Q : Exit → Act → World → Prop} {E : Prop} (hgd : o.guard = none) (s x : Operand)
    (ho : o.op = .call { callee := .builtin .append, args := #[s, x], argTypes := #[36, 36] })
    (B : Nat) (v : Value) (l : List LnL) (hs : a.eval s = v) (f : LnL) (hb : LnRow B v l w) (hB : B ≤ w.heap.size) (ad : Addr)
    (hx : a.eval x = .slice (some ad) 1 1) (h0 : w.cell? (ad.add 0) = some (.int .i64 (f.1 : Int))) (h1 : w.cell? (ad.add 1) = some (.string (str f.2))) (hlen : l.length + 1 ≤ 4398046511104)
    (h : ∀ v' w', LnRow B v' (l ++ [f]) w' → w.grownBy w' v.ownBlock → (v'.ownBlock = v.ownBlock ∨ v'.ownBlock = some w.heap.size) → K (a.put o.dst v') w') :
    if Region.wanted o (yielded ops a.tmps) = true then Oper.wp Tryz.prog o a w K Q else E := by
  have hw : Region.wanted o (yielded ops a.tmps) = true := by simp [Region.wanted, hgd]
  rw [if_pos hw]
  obtain ⟨i0, hi, hz0, hz1, hz2⟩ := info_parts info_ln
  refine wp_append_own2 _ s x 36 ho B 40 i0 (.agg #[.int .i64 0, .string ByteArray.empty]) 2 24 Tryz.underlying36 hi hz0 hz1 hz2 rfl (by decide) v l.length (lnVals l) hs hb ad 1 1 [.int .i64 (f.1 : Int), .string (str f.2)] hx rfl ?_ ?_ (by unfold maxLen; omega) (by omega) hB ?_
  · intro j u hj
    match j, hj with
    | 0, hj => simp at hj; subst hj; exact h0
    | 1, hj => simp at hj; subst hj; exact h1
    | (j + 2), hj => simp at hj
  · intro u hu; simp at hu; rcases hu with rfl | rfl <;> rfl
  · intro v' w' ho' hg hor
    refine h v' w' ?_ hg hor
    unfold LnRow
    rw [lnVals_append, List.length_append]
    exact ho'
theorem grown_after {w w1 w2 : World} {r : Option Nat} (hb : Below w.heap.size w w1) (hg : w1.grownBy w2 r) : w.grownBy w2 r :=
  ⟨hg.os.trans hb.os, hg.tape.trans hb.tape, hg.output.trans hb.output, Nat.le_trans hb.size hg.size, fun k hk hr => (hg.block k (Nat.lt_of_lt_of_le hk hb.size) hr).trans (hb.block k hk)⟩
def roomP (p : PgL) (n : Nat) : Prop := p.1.length + n ≤ 4000000000000 ∧ p.2.length + n ≤ 4000000000000
theorem hor_new {v v' : Value} {n m : Nat} (h : v'.ownBlock = v.ownBlock ∨ v'.ownBlock = some m) (hm : n ≤ m) : ∀ k, v'.ownBlock = some k → v.ownBlock = some k ∨ n ≤ k := fun k e => by
  rcases h with h | h
  · rw [h] at e; exact .inl e
  · rw [h] at e; injection e with e; exact .inr (by omega)
set_option maxHeartbeats 4000000 in
theorem write_any (B g j : Nat) (p : PgL) (ev lv : Value) (s : ByteArray) (w : World) (h : PgW B g j p ev lv w) (hs : s.size ≤ 70368744177664) (hr : roomP p s.size) :
    Calls Tryz.prog 106 #[.pointer (some ⟨g, j, none⟩), .string s] w fun e w' => e = .returned (.tuple #[]) ∧ ∃ ev' lv', PgW B g j (putS p s.data.toList) ev' lv' w' ∧ PgF g j ev lv ev' lv' w w' := by
  have H := hide h
  have HR := hide hr
  clear h hr
  go_enter Tryz.func106, Tryz.ntmps106
  go_wp2_with fail
  go_loopw [1] (fun t wr => ∃ (r : ByteArray) (q : PgL) (e1 l1 : Value), t = .string r ∧ r.size ≤ s.size ∧ Hid (PgW B g j q e1 l1 wr) ∧ Hid (PgF g j ev lv e1 l1 w wr) ∧ Hid (putS q r.data.toList = putS p s.data.toList) ∧ Hid (roomP q r.size)) (fun t _ => szL t)
  case atStart => exact ⟨s, p, ev, lv, rfl, Nat.le_refl _, H, hide (PgF.refl ..), hide rfl, HR⟩
  case round =>
    obtain ⟨r, q, e1, l1, rfl, hrs, HP, HF, HE, HRM⟩ := hrel
    have HC := hide (strCut_any r 10 wr (by omega))
    unfold cutV at HC
    have HCC := hide (cut_case 10 r.data.toList)
    obtain ⟨Ae, ce, rfl⟩ := HP.out.ln.form
    obtain ⟨Al, cl, rfl⟩ := HP.out.bt.form
    obtain ⟨X, hX⟩ : ∃ X, X = str (beforeC 10 r.data.toList) := ⟨_, rfl⟩
    obtain ⟨Y, hY⟩ : ∃ Y, Y = str (afterC 10 r.data.toList) := ⟨_, rfl⟩
    have HXL : Hid (X.data.toList = beforeC 10 r.data.toList) := hide (by rw [hX, str_toList])
    have HYL : Hid (Y.data.toList = afterC 10 r.data.toList) := hide (by rw [hY, str_toList])
    rw [← hX, ← hY] at HC
    clear hX hY
    have HSZ : Hid (X.size ≤ r.size) := hide (by
      have h1 : (beforeC 10 r.data.toList).length ≤ r.data.toList.length := (List.takeWhile_sublist _).length_le
      rw [toList_length, ← HXL.out, toList_length] at h1; exact h1)
    by_cases hm : (10 : UInt8) ∈ r.data.toList
    · rw [hasC_true hm] at HC
      obtain ⟨a, b, e0, hna, e2, e3⟩ : ∃ a b, r.data.toList = a ++ 10 :: b ∧ (10 : UInt8) ∉ a ∧ beforeC 10 r.data.toList = a ∧ afterC 10 r.data.toList = b := by
        rcases HCC.out with ⟨h, _⟩ | h
        · exact absurd hm h
        · exact h
      have HN : Hid (putS (q.1 ++ [(0, q.2 ++ X.data.toList)], []) Y.data.toList = putS p s.data.toList) := hide (by rw [HXL.out, HYL.out, e2, e3, ← putS_lf q a b hna, ← e0]; exact HE.out)
      have HLT : Hid (Y.size + X.size + 1 ≤ r.size) := hide (by
        have h1 := toList_length Y
        have h2 := toList_length X
        have h3 := toList_length r
        rw [HYL.out, e3] at h1
        rw [HXL.out, e2] at h2
        rw [e0] at h3; simp at h3; omega)
      clear hm e0 hna e2 e3 HCC HXL HYL HE
      go_wp2_with fail
      refine HC.out.mono ?_
      rintro e w1 ⟨rfl, hb1⟩
      have hp1 := HP.out.kept hb1
      have HB1 := hide hb1
      have HGL := hide HP.out.lt
      obtain ⟨c0, c1, f0, f1⟩ := hp1.cells
      have HP1 := hide hp1
      have HLN : Hid (q.2.length + X.size ≤ 140737488355328) := hide (by have h1 := HRM.out.2; have h2 := HSZ.out; omega)
      clear hb1 hp1 HC HP c0 f0
      go_wp2_with (
        refine wpList_text2 rfl _ _ rfl B (.slice Al q.2.length cl) q.2 rfl HP1.out.bt (Nat.le_trans HP1.out.Bg (Nat.le_of_lt HP1.out.lt)) X rfl HLN.out ?_
        intro l2 w2 ho2 hg2 hor2
        obtain ⟨hc2, hf2⟩ : w2.cell? ⟨g, j + 1, none⟩ = some (.slice Al q.2.length cl) ∧ w2.frozen? ⟨g, j + 1, none⟩ = false := by
          obtain ⟨cur, hc, _, hx⟩ := HP1.out.blk
          have hb := (hg2.block g (lt_of_block hc) (fun e => row_ne_page HP1.out.bt hc (by decide) e.symm)).trans hc
          exact ⟨(Lib.cell_of_heap hb _).trans hx, Lib.frozen_of_heap hb _⟩
        obtain ⟨L2, hL2⟩ : ∃ L, L = q.2 ++ X.data.toList := ⟨_, rfl⟩
        rw [← hL2] at ho2
        obtain ⟨A2, c2, rfl⟩ := ho2.form
        have HL2 := hide hL2
        have HS2 := hide (HP1.out.setLv ho2 hg2 (hor_new hor2 (Nat.le_refl _)))
        clear ho2 hg2 hor2 c1 f1 hL2)
      generalize (w2.setCell ⟨g, j + 1, none⟩ (.slice A2 L2.length c2)) = w3 at HS2 ⊢
      clear hc2 hf2
      rw [← HL2.out] at HN
      have HLL : Hid (L2.length = q.2.length + X.size) := hide (by rw [HL2.out, List.length_append, toList_length])
      have HP3 := hide HS2.out.1
      have HF3 := hide ((HF.out.trans (PgF.ofBelow _ _ HB1.out HGL.out)).trans HS2.out.2)
      have hcv : (convert 56 9 (.slice A2 L2.length c2)).run Tryz.prog w3.drew = .ok (.string (str L2)) w3.drew := ByRow.convert (w := w3.drew) HP3.out.bt
      obtain ⟨d0, d1, e0, e1⟩ := HP3.out.cells
      have d0d : w3.drew.cell? ⟨g, j, none⟩ = some (.slice Ae q.1.length ce) := d0
      have d1d : w3.drew.cell? ⟨g, j + 1, none⟩ = some (.slice A2 L2.length c2) := d1
      have hka : ∀ ob, PgW B g j (q.1, L2) (.slice Ae q.1.length ce) (.slice A2 L2.length c2) (w3.alloc ob).drew := fun ob => HP3.out.kept ((below_one w3 ob).drew)
      have d0a : ∀ ob, (w3.alloc ob).drew.cell? ⟨g, j, none⟩ = some (.slice Ae q.1.length ce) := fun ob => (hka ob).cells.1
      have d1a : ∀ ob, (w3.alloc ob).drew.cell? ⟨g, j + 1, none⟩ = some (.slice A2 L2.length c2) := fun ob => (hka ob).cells.2.1
      have HKA := hide hka
      have HQN : Hid (q.1.length + 1 ≤ 4398046511104) := hide (by have h1 := HRM.out.1; omega)
      obtain ⟨Z, hZ⟩ : ∃ Z, Z = str L2 := ⟨_, rfl⟩
      have HZ := hide hZ
      rw [← hZ] at hcv
      have HSB : Hid (B ≤ w3.heap.size) := hide (Nat.le_trans HP3.out.Bg (Nat.le_of_lt HP3.out.lt))
      have HQ1 := hide HP3.out.ln
      clear hZ hka HS2 HF HB1 HP1 HGL HLN e0 e1
      go_region_law (
        refine step_lns rfl _ _ rfl B (.slice Ae q.1.length ce) q.1 rfl (0, L2) (HKA.out _).ln (Nat.le_trans HSB.out (below_one w3 _).size) _ rfl (two_ln _ _ _ _).1 ((two_ln _ _ _ _).2.trans (by rw [HZ.out])) HQN.out ?_
        intro e2 w4 ho4 hg4 hor4
        obtain ⟨hc4, hblk4⟩ : w4.cell? ⟨g, j, none⟩ = some (.slice Ae q.1.length ce) ∧ w4.frozen? ⟨g, j, none⟩ = false := by
          obtain ⟨cur, hc, hx, _⟩ := (HKA.out (.cells #[.int .i64 0, .string Z] 40)).blk
          have hb := (hg4.block g (lt_of_block hc) (fun e => row_ne_page (HKA.out (.cells #[.int .i64 0, .string Z] 40)).ln hc (by decide) e.symm)).trans hc
          exact ⟨(Lib.cell_of_heap hb _).trans hx, Lib.frozen_of_heap hb _⟩
        obtain ⟨M, hM⟩ : ∃ M, M = q.1 ++ [(0, L2)] := ⟨_, rfl⟩
        rw [← hM] at ho4
        obtain ⟨A4, c4, rfl⟩ := ho4.form
        have HM := hide hM
        have HS4 := hide (HP3.out.setEv ho4 (grown_after ((below_one w3 (.cells #[.int .i64 0, .string Z] 40)).drew) hg4) (hor_new hor4 (below_one w3 _).size))
        clear ho4 hg4 hor4 hM)
      all_goals
        generalize (w4.setCell ⟨g, j, none⟩ (.slice A4 M.length c4)) = w5 at HS4 ⊢
        rw [← HM.out] at HN
        have HML : Hid (M.length = q.1.length + 1) := hide (by rw [HM.out, List.length_append]; rfl)
        obtain ⟨x0, x1, y0, y1⟩ := HS4.out.1.cells
        have HP5 := hide HS4.out.1
        have HF5 := hide (HF3.out.trans HS4.out.2)
        clear HS4 HP3 HF3 hcv d0 d1 d0d d1d d0a d1a HKA HSB HQ1 hblk4 hc4 x0 y0
        go_wp2_with fail
        obtain ⟨p6, f6⟩ := HP5.out.clearLv
        exact ⟨⟨Y, (M, []), _, _, rfl, by have := HLT.out; omega, hide p6, hide (HF5.out.trans f6), HN, hide ⟨by have h1 := HML.out; have h2 := HLT.out; have h3 := HRM.out.1; show M.length + Y.size ≤ _; omega, by have h2 := HLT.out; have h3 := HRM.out.2; show 0 + Y.size ≤ _; omega⟩⟩, by have := HLT.out; show Y.size < r.size; omega⟩
    · rw [hasC_false hm] at HC
      have e2 : beforeC 10 r.data.toList = r.data.toList := (cut_none 10 _ hm).1
      have HN : Hid ((q.1, q.2 ++ X.data.toList) = putS p s.data.toList) := hide (by rw [HXL.out, e2, ← putS_line q _ hm]; exact HE.out)
      clear hm e2 HCC HXL HYL HE
      go_wp2_with fail
      refine HC.out.mono ?_
      rintro e w1 ⟨rfl, hb1⟩
      have hp1 := HP.out.kept hb1
      have HB1 := hide hb1
      have HGL := hide HP.out.lt
      obtain ⟨c0, c1, f0, f1⟩ := hp1.cells
      have HP1 := hide hp1
      have HLN : Hid (q.2.length + X.size ≤ 140737488355328) := hide (by have h1 := HRM.out.2; have h2 := HSZ.out; omega)
      clear hb1 hp1 HC HP c0 f0
      go_wp2_with (
        refine wpList_text2 rfl _ _ rfl B (.slice Al q.2.length cl) q.2 rfl HP1.out.bt (Nat.le_trans HP1.out.Bg (Nat.le_of_lt HP1.out.lt)) X rfl HLN.out ?_
        intro l2 w2 ho2 hg2 hor2
        obtain ⟨hc2, hf2⟩ : w2.cell? ⟨g, j + 1, none⟩ = some (.slice Al q.2.length cl) ∧ w2.frozen? ⟨g, j + 1, none⟩ = false := by
          obtain ⟨cur, hc, _, hx⟩ := HP1.out.blk
          have hb := (hg2.block g (lt_of_block hc) (fun e => row_ne_page HP1.out.bt hc (by decide) e.symm)).trans hc
          exact ⟨(Lib.cell_of_heap hb _).trans hx, Lib.frozen_of_heap hb _⟩
        obtain ⟨L2, hL2⟩ : ∃ L, L = q.2 ++ X.data.toList := ⟨_, rfl⟩
        rw [← hL2] at ho2
        obtain ⟨A2, c2, rfl⟩ := ho2.form
        have HS2 := hide (HP1.out.setLv ho2 hg2 (hor_new hor2 (Nat.le_refl _)))
        have HN2 : Hid ((q.1, L2) = putS p s.data.toList) := hide (by rw [hL2]; exact HN.out)
        rw [HN2.out] at HS2
        clear ho2 hg2 hor2 c1 f1 hL2)
      (try simp only [Exit.inBlock, Exit.then])
      refine bodyPost_ret (results_none rfl _ _ _) rfl ?_
      exact ⟨rfl, _, _, HS2.out.1, (HF.out.trans (PgF.ofBelow _ _ HB1.out HGL.out)).trans HS2.out.2⟩
end Go.Proofs.YtiejmkjpgjbodaaGreatDoor

