/- WALK of ent.reference. No statement is proved here. -/
import Derived.Test.YtmojckphfbcibaaGreatDoorEntB
import Derived.Test.YtmojckphfbcibaaGreatDoorBaseN
namespace Go.Proofs.YtmojckphfbcibaaGreatDoor
open Go.RowKit
set_option linter.unusedVariables false
set_option linter.unusedSimpArgs false
set_option maxRecDepth 100000
/-- the sign of what stands behind a reference's `#` -/
def byN (l : List UInt8) : Option Int := if Lib.hasPrefix l [120] || Lib.hasPrefix l [88] then numAt 16 6 (l.drop 1) else numAt 10 7 l
/-- the sign of what stands between a reference's signs -/
def sgn (l : List UInt8) : Option Int := if Lib.hasPrefix l [35] = true then byN (Lib.trimPrefix l [35]) else nameN l
/-- the sign of the reference whose begin stands just ahead, and how many bytes belong to it -/
def refN (l : List UInt8) : Int × Nat :=
  match sgn (beforeC 59 (l.take 9)), hasC 59 (l.take 9) with
  | some x, true => (x, (beforeC 59 (l.take 9)).length + 1)
  | _, _ => (0, 0)
theorem byNumber_any (D : ByteArray) (ev : Value) (w : World) (hs : D.size ≤ 8) (hT : Tab w) (hU : Lib.Utf8Tabs 4 5 w)
    (hv : w.cell? ⟨1, 0, none⟩ = some ev) (hev : ev = .nilIface ∨ ∃ te pe, ev = .iface te pe) :
    Calls Tryz.prog 69 #[.string D] w fun e w' => e = .returned (entV (byN D.data.toList)) ∧ Below w.heap.size w w' := by
  cases p1 : Lib.hasPrefix D.data.toList [120] with
  | true =>
    have e : byN D.data.toList = numAt 16 6 (D.extract 1 D.size).data.toList := by unfold byN; rw [p1, extract_end]; rfl
    rw [e]; exact byNumber_x D ev w hs p1 hT hU hv hev
  | false =>
    cases p2 : Lib.hasPrefix D.data.toList [88] with
    | true =>
      have e : byN D.data.toList = numAt 16 6 (D.extract 1 D.size).data.toList := by unfold byN; rw [p1, p2, extract_end]; rfl
      rw [e]; exact byNumber_X D ev w hs p1 p2 hT hU hv hev
    | false =>
      have e : byN D.data.toList = numAt 10 7 D.data.toList := by unfold byN; rw [p1, p2]; rfl
      rw [e]; exact byNumber_d D ev w hs p1 p2 hT hU hv hev
theorem dig_size {C D : ByteArray} (hp : Lib.hasPrefix C.data.toList [35] = true) (hD : D.data.toList = Lib.trimPrefix C.data.toList [35]) (h : C.size ≤ 9) : D.size ≤ 8 := by
  have := congrArg List.length hD
  rw [toList_length] at this
  rw [this]
  unfold Lib.trimPrefix
  rw [hp]
  have := pref_size hp
  simp only [if_true, List.length_drop, toList_length]
  have e1 : ([35] : List UInt8).length = 1 := rfl
  omega
def refV (o : Int × Nat) : Value := .tuple #[.int .i32 o.1, .int .i64 o.2]
set_option maxHeartbeats 4000000 in
theorem reference_any (R : ByteArray) (b : Nat) (ev : Value) (w : World) (hs : R.size ≤ 16777216) (hM : SMapN w b 16 nameN) (hT : Tab w) (hU : Lib.Utf8Tabs 4 5 w)
    (hv : w.cell? ⟨1, 0, none⟩ = some ev) (hev : ev = .nilIface ∨ ∃ te pe, ev = .iface te pe) :
    Calls Tryz.prog 43 #[.string R, .map (some b)] w fun e w' => e = .returned (refV (refN R.data.toList)) ∧ Below w.heap.size w w' := by
  have zC : (beforeC 59 (R.data.toList.take 9)).length ≤ 9 := Nat.le_trans ((List.takeWhile_sublist _).length_le) (List.length_take_le _ _)
  obtain ⟨C, hC⟩ : ∃ C, C = str (beforeC 59 (R.data.toList.take 9)) := ⟨_, rfl⟩
  have hCt : C.data.toList = beforeC 59 (R.data.toList.take 9) := by rw [hC, str_toList]
  have HCS : Hid (C.size ≤ maxLen) := hide (by rw [hC, str_size]; exact Nat.le_trans zC (by decide))
  have hCs : C.size ≤ 9 := by rw [hC, str_size]; exact zC
  have HM := hide hM
  obtain ⟨D, hD⟩ : ∃ D, D = (⟨(Lib.trimPrefix C.data.toList [35]).toArray⟩ : ByteArray) := ⟨_, rfl⟩
  have hDt : D.data.toList = Lib.trimPrefix C.data.toList [35] := by rw [hD]
  have hpre := fun w1 => Tryz.strings_CutPrefix C ⟨#[35]⟩ w1
  rw [show (⟨#[35]⟩ : ByteArray).data.toList = [35] from rfl, ← hD] at hpre
  by_cases hz : R.size < 9
  · have m1 : decide ((R.size : Int) < 9) = true := decide_eq_true (by omega)
    have mn : min (R.size : Int) 9 = R.size := by omega
    obtain ⟨N, hN⟩ : ∃ N, N = R := ⟨_, rfl⟩
    have hNt : N.data.toList = R.data.toList.take 9 := by rw [hN, List.take_of_length_le (by rw [toList_length]; omega)]
    have hcut := fun w1 => strCut_any N 59 w1 (by rw [← toList_length, hNt]; exact Nat.le_trans (List.length_take_le _ _) (by decide))
    simp only [cutV] at hcut
    rw [hNt, ← hC, hN] at hcut
    cases hp : Lib.hasPrefix C.data.toList [35]
    · have HP : Hid (Lib.hasPrefix C.data.toList [35] = false) := hide hp
      rw [hp] at hpre
      have HPRE := hide hpre
      have hsg : sgn C.data.toList = nameN C.data.toList := by unfold sgn; rw [hp, if_neg (by decide)]
      cases hsn : nameN C.data.toList with
      | none =>
        rw [hsn] at hsg
        have HNM := hide hsn
        cases hend : hasC 59 (R.data.toList.take 9) with
        | false =>
          have HR : Hid (refN R.data.toList = (0, 0)) := hide (by unfold refN; rw [← hCt, hsg, hend])
          rw [hend] at hcut
          have HCUT := hide hcut
          clear hcut hsg hsn hend hp hpre hT hU hv hev hM hC hCt hDt hD hN hNt zC
          go_enter Tryz.func43, Tryz.ntmps43
          go_wp2_with (first | (go_at_call 42; with_reducible refine (HCUT.out _).mono ?_; rintro e w1 ⟨rfl, hb1⟩; have HB1 := hide hb1; clear hb1) | (go_at_call 47; with_reducible refine (HPRE.out _).mono ?_; rintro e wp ⟨rfl, hwp⟩; obtain rfl := hwp) | (at_lookup; refine wpList_sm_look rfl _ _ rfl b 16 nameN rfl (HM.out.kept HB1.out) C HCS.out rfl ?_; rw [HNM.out]))
          go_ret2
          exact ⟨by rw [HR.out]; rfl, HB1.out⟩
        | true =>
          have HR : Hid (refN R.data.toList = (0, 0)) := hide (by unfold refN; rw [← hCt, hsg, hend])
          rw [hend] at hcut
          have HCUT := hide hcut
          clear hcut hsg hsn hend hp hpre hT hU hv hev hM hC hCt hDt hD hN hNt zC
          go_enter Tryz.func43, Tryz.ntmps43
          go_wp2_with (first | (go_at_call 42; with_reducible refine (HCUT.out _).mono ?_; rintro e w1 ⟨rfl, hb1⟩; have HB1 := hide hb1; clear hb1) | (go_at_call 47; with_reducible refine (HPRE.out _).mono ?_; rintro e wp ⟨rfl, hwp⟩; obtain rfl := hwp) | (at_lookup; refine wpList_sm_look rfl _ _ rfl b 16 nameN rfl (HM.out.kept HB1.out) C HCS.out rfl ?_; rw [HNM.out]))
          go_ret2
          exact ⟨by rw [HR.out]; rfl, HB1.out⟩
      | some x =>
        rw [hsn] at hsg
        have HNM := hide hsn
        cases hend : hasC 59 (R.data.toList.take 9) with
        | false =>
          have HR : Hid (refN R.data.toList = (0, 0)) := hide (by unfold refN; rw [← hCt, hsg, hend])
          rw [hend] at hcut
          have HCUT := hide hcut
          clear hcut hsg hsn hend hp hpre hT hU hv hev hM hC hCt hDt hD hN hNt zC
          go_enter Tryz.func43, Tryz.ntmps43
          go_wp2_with (first | (go_at_call 42; with_reducible refine (HCUT.out _).mono ?_; rintro e w1 ⟨rfl, hb1⟩; have HB1 := hide hb1; clear hb1) | (go_at_call 47; with_reducible refine (HPRE.out _).mono ?_; rintro e wp ⟨rfl, hwp⟩; obtain rfl := hwp) | (at_lookup; refine wpList_sm_look rfl _ _ rfl b 16 nameN rfl (HM.out.kept HB1.out) C HCS.out rfl ?_; rw [HNM.out]))
          go_ret2
          exact ⟨by rw [HR.out]; rfl, HB1.out⟩
        | true =>
          have HR : Hid (refN R.data.toList = (x, C.size + 1)) := hide (by unfold refN; rw [← hCt, hsg, hend]; simp only [toList_length])
          rw [hend] at hcut
          have HCUT := hide hcut
          clear hcut hsg hsn hend hp hpre hT hU hv hev hM hC hCt hDt hD hN hNt zC
          go_enter Tryz.func43, Tryz.ntmps43
          go_wp2_with (first | (go_at_call 42; with_reducible refine (HCUT.out _).mono ?_; rintro e w1 ⟨rfl, hb1⟩; have HB1 := hide hb1; clear hb1) | (go_at_call 47; with_reducible refine (HPRE.out _).mono ?_; rintro e wp ⟨rfl, hwp⟩; obtain rfl := hwp) | (at_lookup; refine wpList_sm_look rfl _ _ rfl b 16 nameN rfl (HM.out.kept HB1.out) C HCS.out rfl ?_; rw [HNM.out]))
          go_ret2
          exact ⟨by rw [HR.out]; rfl, HB1.out⟩
    · have HP : Hid (Lib.hasPrefix C.data.toList [35] = true) := hide hp
      rw [hp] at hpre
      have HPRE := hide hpre
      obtain ⟨nm, hnm⟩ : ∃ nm, nameN C.data.toList = nm := ⟨_, rfl⟩
      have HNM := hide hnm
      have hsg : sgn C.data.toList = byN D.data.toList := by unfold sgn; rw [hp, if_pos rfl, hDt]
      have hds : D.size ≤ 8 := dig_size hp hDt (by rw [← hCt] at zC; rw [toList_length] at zC; exact zC)
      have hnum := fun w1 (hb : Below w.heap.size w w1) => byNumber_any D ev w1 hds (hT.below hb hT.lt) (tabs_kept hU hb) ((hb.cell (p := ⟨1, 0, none⟩) (World.block_lt_of_cell? _ _ hv)).trans hv) hev
      cases hsn : byN D.data.toList with
      | none =>
        rw [hsn] at hsg
        rw [hsn] at hnum
        simp only [entV] at hnum
        have HNUM := hide hnum
        cases hend : hasC 59 (R.data.toList.take 9) with
        | false =>
          have HR : Hid (refN R.data.toList = (0, 0)) := hide (by unfold refN; rw [← hCt, hsg, hend])
          rw [hend] at hcut
          have HCUT := hide hcut
          clear hcut hsg hsn hend hp hpre hT hU hv hev hM hC hCt hDt hD hN hNt zC hnm hnum hds
          go_enter Tryz.func43, Tryz.ntmps43
          go_wp2_with (first | (go_at_call 42; with_reducible refine (HCUT.out _).mono ?_; rintro e w1 ⟨rfl, hb1⟩; have HB1 := hide hb1; clear hb1) | (go_at_call 47; with_reducible refine (HPRE.out _).mono ?_; rintro e wp ⟨rfl, hwp⟩; obtain rfl := hwp) | (at_lookup; refine wpList_sm_look rfl _ _ rfl b 16 nameN rfl (HM.out.kept HB1.out) C HCS.out rfl ?_; rw [HNM.out]) | (go_at_call 69; with_reducible refine (HNUM.out _ HB1.out).mono ?_; rintro e w2 ⟨rfl, hb2⟩; have HB2 := hide (HB1.out.trans (hb2.mono HB1.out.size)); clear hb2))
          go_ret2
          exact ⟨by rw [HR.out]; rfl, HB2.out⟩
        | true =>
          have HR : Hid (refN R.data.toList = (0, 0)) := hide (by unfold refN; rw [← hCt, hsg, hend])
          rw [hend] at hcut
          have HCUT := hide hcut
          clear hcut hsg hsn hend hp hpre hT hU hv hev hM hC hCt hDt hD hN hNt zC hnm hnum hds
          go_enter Tryz.func43, Tryz.ntmps43
          go_wp2_with (first | (go_at_call 42; with_reducible refine (HCUT.out _).mono ?_; rintro e w1 ⟨rfl, hb1⟩; have HB1 := hide hb1; clear hb1) | (go_at_call 47; with_reducible refine (HPRE.out _).mono ?_; rintro e wp ⟨rfl, hwp⟩; obtain rfl := hwp) | (at_lookup; refine wpList_sm_look rfl _ _ rfl b 16 nameN rfl (HM.out.kept HB1.out) C HCS.out rfl ?_; rw [HNM.out]) | (go_at_call 69; with_reducible refine (HNUM.out _ HB1.out).mono ?_; rintro e w2 ⟨rfl, hb2⟩; have HB2 := hide (HB1.out.trans (hb2.mono HB1.out.size)); clear hb2))
          go_ret2
          exact ⟨by rw [HR.out]; rfl, HB2.out⟩
      | some x =>
        rw [hsn] at hsg
        rw [hsn] at hnum
        simp only [entV] at hnum
        have HNUM := hide hnum
        cases hend : hasC 59 (R.data.toList.take 9) with
        | false =>
          have HR : Hid (refN R.data.toList = (0, 0)) := hide (by unfold refN; rw [← hCt, hsg, hend])
          rw [hend] at hcut
          have HCUT := hide hcut
          clear hcut hsg hsn hend hp hpre hT hU hv hev hM hC hCt hDt hD hN hNt zC hnm hnum hds
          go_enter Tryz.func43, Tryz.ntmps43
          go_wp2_with (first | (go_at_call 42; with_reducible refine (HCUT.out _).mono ?_; rintro e w1 ⟨rfl, hb1⟩; have HB1 := hide hb1; clear hb1) | (go_at_call 47; with_reducible refine (HPRE.out _).mono ?_; rintro e wp ⟨rfl, hwp⟩; obtain rfl := hwp) | (at_lookup; refine wpList_sm_look rfl _ _ rfl b 16 nameN rfl (HM.out.kept HB1.out) C HCS.out rfl ?_; rw [HNM.out]) | (go_at_call 69; with_reducible refine (HNUM.out _ HB1.out).mono ?_; rintro e w2 ⟨rfl, hb2⟩; have HB2 := hide (HB1.out.trans (hb2.mono HB1.out.size)); clear hb2))
          go_ret2
          exact ⟨by rw [HR.out]; rfl, HB2.out⟩
        | true =>
          have HR : Hid (refN R.data.toList = (x, C.size + 1)) := hide (by unfold refN; rw [← hCt, hsg, hend]; simp only [toList_length])
          rw [hend] at hcut
          have HCUT := hide hcut
          clear hcut hsg hsn hend hp hpre hT hU hv hev hM hC hCt hDt hD hN hNt zC hnm hnum hds
          go_enter Tryz.func43, Tryz.ntmps43
          go_wp2_with (first | (go_at_call 42; with_reducible refine (HCUT.out _).mono ?_; rintro e w1 ⟨rfl, hb1⟩; have HB1 := hide hb1; clear hb1) | (go_at_call 47; with_reducible refine (HPRE.out _).mono ?_; rintro e wp ⟨rfl, hwp⟩; obtain rfl := hwp) | (at_lookup; refine wpList_sm_look rfl _ _ rfl b 16 nameN rfl (HM.out.kept HB1.out) C HCS.out rfl ?_; rw [HNM.out]) | (go_at_call 69; with_reducible refine (HNUM.out _ HB1.out).mono ?_; rintro e w2 ⟨rfl, hb2⟩; have HB2 := hide (HB1.out.trans (hb2.mono HB1.out.size)); clear hb2))
          go_ret2
          exact ⟨by rw [HR.out]; rfl, HB2.out⟩
  · have m1 : decide ((R.size : Int) < 9) = false := decide_eq_false (by omega)
    have mn : min (R.size : Int) 9 = 9 := by omega
    have m4 : (9 : Int) ≤ R.size := by omega
    obtain ⟨N, hN⟩ : ∃ N, N = R.extract 0 9 := ⟨_, rfl⟩
    have hNt : N.data.toList = R.data.toList.take 9 := by rw [hN, extract_list, List.drop_zero]
    have hcut := fun w1 => strCut_any N 59 w1 (by rw [← toList_length, hNt]; exact Nat.le_trans (List.length_take_le _ _) (by decide))
    simp only [cutV] at hcut
    rw [hNt, ← hC, hN] at hcut
    cases hp : Lib.hasPrefix C.data.toList [35]
    · have HP : Hid (Lib.hasPrefix C.data.toList [35] = false) := hide hp
      rw [hp] at hpre
      have HPRE := hide hpre
      have hsg : sgn C.data.toList = nameN C.data.toList := by unfold sgn; rw [hp, if_neg (by decide)]
      cases hsn : nameN C.data.toList with
      | none =>
        rw [hsn] at hsg
        have HNM := hide hsn
        cases hend : hasC 59 (R.data.toList.take 9) with
        | false =>
          have HR : Hid (refN R.data.toList = (0, 0)) := hide (by unfold refN; rw [← hCt, hsg, hend])
          rw [hend] at hcut
          have HCUT := hide hcut
          clear hcut hsg hsn hend hp hpre hT hU hv hev hM hC hCt hDt hD hN hNt zC
          go_enter Tryz.func43, Tryz.ntmps43
          go_wp2_with (first | (go_at_call 42; with_reducible refine (HCUT.out _).mono ?_; rintro e w1 ⟨rfl, hb1⟩; have HB1 := hide hb1; clear hb1) | (go_at_call 47; with_reducible refine (HPRE.out _).mono ?_; rintro e wp ⟨rfl, hwp⟩; obtain rfl := hwp) | (at_lookup; refine wpList_sm_look rfl _ _ rfl b 16 nameN rfl (HM.out.kept HB1.out) C HCS.out rfl ?_; rw [HNM.out]))
          go_ret2
          exact ⟨by rw [HR.out]; rfl, HB1.out⟩
        | true =>
          have HR : Hid (refN R.data.toList = (0, 0)) := hide (by unfold refN; rw [← hCt, hsg, hend])
          rw [hend] at hcut
          have HCUT := hide hcut
          clear hcut hsg hsn hend hp hpre hT hU hv hev hM hC hCt hDt hD hN hNt zC
          go_enter Tryz.func43, Tryz.ntmps43
          go_wp2_with (first | (go_at_call 42; with_reducible refine (HCUT.out _).mono ?_; rintro e w1 ⟨rfl, hb1⟩; have HB1 := hide hb1; clear hb1) | (go_at_call 47; with_reducible refine (HPRE.out _).mono ?_; rintro e wp ⟨rfl, hwp⟩; obtain rfl := hwp) | (at_lookup; refine wpList_sm_look rfl _ _ rfl b 16 nameN rfl (HM.out.kept HB1.out) C HCS.out rfl ?_; rw [HNM.out]))
          go_ret2
          exact ⟨by rw [HR.out]; rfl, HB1.out⟩
      | some x =>
        rw [hsn] at hsg
        have HNM := hide hsn
        cases hend : hasC 59 (R.data.toList.take 9) with
        | false =>
          have HR : Hid (refN R.data.toList = (0, 0)) := hide (by unfold refN; rw [← hCt, hsg, hend])
          rw [hend] at hcut
          have HCUT := hide hcut
          clear hcut hsg hsn hend hp hpre hT hU hv hev hM hC hCt hDt hD hN hNt zC
          go_enter Tryz.func43, Tryz.ntmps43
          go_wp2_with (first | (go_at_call 42; with_reducible refine (HCUT.out _).mono ?_; rintro e w1 ⟨rfl, hb1⟩; have HB1 := hide hb1; clear hb1) | (go_at_call 47; with_reducible refine (HPRE.out _).mono ?_; rintro e wp ⟨rfl, hwp⟩; obtain rfl := hwp) | (at_lookup; refine wpList_sm_look rfl _ _ rfl b 16 nameN rfl (HM.out.kept HB1.out) C HCS.out rfl ?_; rw [HNM.out]))
          go_ret2
          exact ⟨by rw [HR.out]; rfl, HB1.out⟩
        | true =>
          have HR : Hid (refN R.data.toList = (x, C.size + 1)) := hide (by unfold refN; rw [← hCt, hsg, hend]; simp only [toList_length])
          rw [hend] at hcut
          have HCUT := hide hcut
          clear hcut hsg hsn hend hp hpre hT hU hv hev hM hC hCt hDt hD hN hNt zC
          go_enter Tryz.func43, Tryz.ntmps43
          go_wp2_with (first | (go_at_call 42; with_reducible refine (HCUT.out _).mono ?_; rintro e w1 ⟨rfl, hb1⟩; have HB1 := hide hb1; clear hb1) | (go_at_call 47; with_reducible refine (HPRE.out _).mono ?_; rintro e wp ⟨rfl, hwp⟩; obtain rfl := hwp) | (at_lookup; refine wpList_sm_look rfl _ _ rfl b 16 nameN rfl (HM.out.kept HB1.out) C HCS.out rfl ?_; rw [HNM.out]))
          go_ret2
          exact ⟨by rw [HR.out]; rfl, HB1.out⟩
    · have HP : Hid (Lib.hasPrefix C.data.toList [35] = true) := hide hp
      rw [hp] at hpre
      have HPRE := hide hpre
      obtain ⟨nm, hnm⟩ : ∃ nm, nameN C.data.toList = nm := ⟨_, rfl⟩
      have HNM := hide hnm
      have hsg : sgn C.data.toList = byN D.data.toList := by unfold sgn; rw [hp, if_pos rfl, hDt]
      have hds : D.size ≤ 8 := dig_size hp hDt (by rw [← hCt] at zC; rw [toList_length] at zC; exact zC)
      have hnum := fun w1 (hb : Below w.heap.size w w1) => byNumber_any D ev w1 hds (hT.below hb hT.lt) (tabs_kept hU hb) ((hb.cell (p := ⟨1, 0, none⟩) (World.block_lt_of_cell? _ _ hv)).trans hv) hev
      cases hsn : byN D.data.toList with
      | none =>
        rw [hsn] at hsg
        rw [hsn] at hnum
        simp only [entV] at hnum
        have HNUM := hide hnum
        cases hend : hasC 59 (R.data.toList.take 9) with
        | false =>
          have HR : Hid (refN R.data.toList = (0, 0)) := hide (by unfold refN; rw [← hCt, hsg, hend])
          rw [hend] at hcut
          have HCUT := hide hcut
          clear hcut hsg hsn hend hp hpre hT hU hv hev hM hC hCt hDt hD hN hNt zC hnm hnum hds
          go_enter Tryz.func43, Tryz.ntmps43
          go_wp2_with (first | (go_at_call 42; with_reducible refine (HCUT.out _).mono ?_; rintro e w1 ⟨rfl, hb1⟩; have HB1 := hide hb1; clear hb1) | (go_at_call 47; with_reducible refine (HPRE.out _).mono ?_; rintro e wp ⟨rfl, hwp⟩; obtain rfl := hwp) | (at_lookup; refine wpList_sm_look rfl _ _ rfl b 16 nameN rfl (HM.out.kept HB1.out) C HCS.out rfl ?_; rw [HNM.out]) | (go_at_call 69; with_reducible refine (HNUM.out _ HB1.out).mono ?_; rintro e w2 ⟨rfl, hb2⟩; have HB2 := hide (HB1.out.trans (hb2.mono HB1.out.size)); clear hb2))
          go_ret2
          exact ⟨by rw [HR.out]; rfl, HB2.out⟩
        | true =>
          have HR : Hid (refN R.data.toList = (0, 0)) := hide (by unfold refN; rw [← hCt, hsg, hend])
          rw [hend] at hcut
          have HCUT := hide hcut
          clear hcut hsg hsn hend hp hpre hT hU hv hev hM hC hCt hDt hD hN hNt zC hnm hnum hds
          go_enter Tryz.func43, Tryz.ntmps43
          go_wp2_with (first | (go_at_call 42; with_reducible refine (HCUT.out _).mono ?_; rintro e w1 ⟨rfl, hb1⟩; have HB1 := hide hb1; clear hb1) | (go_at_call 47; with_reducible refine (HPRE.out _).mono ?_; rintro e wp ⟨rfl, hwp⟩; obtain rfl := hwp) | (at_lookup; refine wpList_sm_look rfl _ _ rfl b 16 nameN rfl (HM.out.kept HB1.out) C HCS.out rfl ?_; rw [HNM.out]) | (go_at_call 69; with_reducible refine (HNUM.out _ HB1.out).mono ?_; rintro e w2 ⟨rfl, hb2⟩; have HB2 := hide (HB1.out.trans (hb2.mono HB1.out.size)); clear hb2))
          go_ret2
          exact ⟨by rw [HR.out]; rfl, HB2.out⟩
      | some x =>
        rw [hsn] at hsg
        rw [hsn] at hnum
        simp only [entV] at hnum
        have HNUM := hide hnum
        cases hend : hasC 59 (R.data.toList.take 9) with
        | false =>
          have HR : Hid (refN R.data.toList = (0, 0)) := hide (by unfold refN; rw [← hCt, hsg, hend])
          rw [hend] at hcut
          have HCUT := hide hcut
          clear hcut hsg hsn hend hp hpre hT hU hv hev hM hC hCt hDt hD hN hNt zC hnm hnum hds
          go_enter Tryz.func43, Tryz.ntmps43
          go_wp2_with (first | (go_at_call 42; with_reducible refine (HCUT.out _).mono ?_; rintro e w1 ⟨rfl, hb1⟩; have HB1 := hide hb1; clear hb1) | (go_at_call 47; with_reducible refine (HPRE.out _).mono ?_; rintro e wp ⟨rfl, hwp⟩; obtain rfl := hwp) | (at_lookup; refine wpList_sm_look rfl _ _ rfl b 16 nameN rfl (HM.out.kept HB1.out) C HCS.out rfl ?_; rw [HNM.out]) | (go_at_call 69; with_reducible refine (HNUM.out _ HB1.out).mono ?_; rintro e w2 ⟨rfl, hb2⟩; have HB2 := hide (HB1.out.trans (hb2.mono HB1.out.size)); clear hb2))
          go_ret2
          exact ⟨by rw [HR.out]; rfl, HB2.out⟩
        | true =>
          have HR : Hid (refN R.data.toList = (x, C.size + 1)) := hide (by unfold refN; rw [← hCt, hsg, hend]; simp only [toList_length])
          rw [hend] at hcut
          have HCUT := hide hcut
          clear hcut hsg hsn hend hp hpre hT hU hv hev hM hC hCt hDt hD hN hNt zC hnm hnum hds
          go_enter Tryz.func43, Tryz.ntmps43
          go_wp2_with (first | (go_at_call 42; with_reducible refine (HCUT.out _).mono ?_; rintro e w1 ⟨rfl, hb1⟩; have HB1 := hide hb1; clear hb1) | (go_at_call 47; with_reducible refine (HPRE.out _).mono ?_; rintro e wp ⟨rfl, hwp⟩; obtain rfl := hwp) | (at_lookup; refine wpList_sm_look rfl _ _ rfl b 16 nameN rfl (HM.out.kept HB1.out) C HCS.out rfl ?_; rw [HNM.out]) | (go_at_call 69; with_reducible refine (HNUM.out _ HB1.out).mono ?_; rintro e w2 ⟨rfl, hb2⟩; have HB2 := hide (HB1.out.trans (hb2.mono HB1.out.size)); clear hb2))
          go_ret2
          exact ⟨by rw [HR.out]; rfl, HB2.out⟩
end Go.Proofs.YtmojckphfbcibaaGreatDoor
