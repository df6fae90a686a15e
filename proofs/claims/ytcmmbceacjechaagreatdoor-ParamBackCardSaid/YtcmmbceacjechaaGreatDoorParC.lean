/- WALKS of param.mayBeMain, written; strconv.Itoa as it is used there. No statement is proved here. -/
import Derived.Test.YtcmmbceacjechaaGreatDoorParA
import Derived.Lib.ItoaNum
namespace Go.Proofs.YtcmmbceacjechaaGreatDoor
open Go.RowKit
set_option linter.unusedVariables false
set_option linter.unusedSimpArgs false
set_option maxRecDepth 100000
/-- what stands behind a name for its value -/
def wrL (l : List UInt8) : List UInt8 := if encodeL l = l then 61 :: quoteL l else [42, 61, 117, 116, 102, 45, 56, 39, 39] ++ penc l
theorem str_cons_app (a b : List UInt8) : str (a ++ b) = str a ++ str b := str_append a b
set_option maxHeartbeats 2000000 in
theorem written_any (s : ByteArray) (m : Int) (w : World) (hs : s.size ≤ 100000) (hm : w.cell? ⟨0, 0, none⟩ = some (.int .i64 m)) :
    Calls Tryz.prog 63 #[.string s] w fun e w' => e = .returned (.string (str (wrL s.data.toList))) ∧ Below w.heap.size w w' := by
  obtain ⟨E, hE⟩ : ∃ E, E = str (encodeL s.data.toList) := ⟨_, rfl⟩
  have HE := hide (wordEncode_any s m w hs hm)
  rw [← hE] at HE
  have HQ := hide (fun (w : World) => writeQ_any s w (by omega))
  have HP := hide (fun (w : World) => encode_any s w (by omega))
  have zq : (quoteL s.data.toList).length ≤ 2 * s.size + 2 := by have := escL_length s.data.toList; rw [toList_length] at this; unfold quoteL; simp only [List.length_cons, List.length_append, List.length_nil]; omega
  have zp : (penc s.data.toList).length ≤ 3 * s.size := by have := (penc_length s.data.toList).2; rw [toList_length] at this; omega
  obtain ⟨Q, hQ⟩ : ∃ Q, Q = str (quoteL s.data.toList) := ⟨_, rfl⟩
  obtain ⟨P, hP⟩ : ∃ P, P = str (penc s.data.toList) := ⟨_, rfl⟩
  have zQ : Q.size ≤ 1000000 := by rw [hQ, str_size]; omega
  have zP : P.size ≤ 1000000 := by rw [hP, str_size]; omega
  rw [← hQ] at HQ
  rw [← hP] at HP
  by_cases he : encodeL s.data.toList = s.data.toList
  · have HV : Hid (str (wrL s.data.toList) = (⟨#[61]⟩ : ByteArray) ++ Q) := hide (by
      unfold wrL; rw [if_pos he, hQ]
      show str ([61] ++ quoteL s.data.toList) = _
      rw [str_append]; rfl)
    have t1 : (E.toList == s.toList) = true := by rw [hE, str_list, bytes_list, he]; exact beq_self_eq_true _
    clear hE he zq zp hQ hP hm
    go_enter Tryz.func63, Tryz.ntmps63
    go_wp2_with (first
      | (go_at_call 103; refine HE.out.mono ?_; rintro e w1 ⟨rfl, hb1⟩; have HB1 := hide hb1; clear hb1)
      | (go_at_call 104; refine (HQ.out _).mono ?_; rintro e w2 ⟨rfl, hb2⟩; have HB2 := hide (HB1.out.trans (hb2.mono HB1.out.size)); clear hb2))
    go_ret
    exact ⟨by rw [HV.out] <;> rfl, HB2.out⟩
  · have HV : Hid (str (wrL s.data.toList) = (⟨#[42, 61, 117, 116, 102, 45, 56, 39, 39]⟩ : ByteArray) ++ P) := hide (by
      unfold wrL; rw [if_neg he, hP, str_append]; rfl)
    have t1 : (E.toList == s.toList) = false := by rw [hE, str_list, bytes_list]; exact beq_eq_false_iff_ne.2 he
    clear hE he zq zp hQ hP hm
    go_enter Tryz.func63, Tryz.ntmps63
    go_wp2_with (first
      | (go_at_call 103; refine HE.out.mono ?_; rintro e w1 ⟨rfl, hb1⟩; have HB1 := hide hb1; clear hb1)
      | (go_at_call 105; refine (HP.out _).mono ?_; rintro e w2 ⟨rfl, hb2⟩; have HB2 := hide (HB1.out.trans (hb2.mono HB1.out.size)); clear hb2))
    go_ret
    exact ⟨by rw [HV.out] <;> rfl, HB2.out⟩
/-- may a main word be written? -/
def mainB (l : List UInt8) : Bool := !ctlL l && !hasAny [59, 34] l && (tsL l == l)
set_option maxHeartbeats 2000000 in
theorem mayMain_any (s : ByteArray) (w : World) (hs : s.size ≤ 1048576) :
    Calls Tryz.prog 59 #[.string s] w fun e w' => e = .returned (.bool (mainB s.data.toList)) ∧ Below w.heap.size w w' := by
  have HC := hide (fun (w : World) => control_any s w (by omega))
  obtain ⟨T, hT⟩ : ∃ T, T = str (tsL s.data.toList) := ⟨_, rfl⟩
  have HS := hide (fun (w : World) => trimSmall_any s w hs)
  rw [← hT] at HS
  have HA := hide (fun (w : World) => containsAny_any s ⟨#[59, 34]⟩ w (by decide) (by decide) hs (by decide))
  have e3 : (tsL s.data.toList == s.data.toList) = (T.toList == s.toList) := by rw [hT, str_list, bytes_list]
  have HV : Hid (mainB s.data.toList = (!ctlL s.data.toList && !hasAny [59, 34] s.data.toList && (T.toList == s.toList))) := hide (by unfold mainB; rw [e3])
  rw [HV.out]
  clear hT e3 HV
  cases h1 : ctlL s.data.toList with
  | true =>
    rw [h1] at HC
    clear h1
    go_enter Tryz.func59, Tryz.ntmps59
    go_wp2_with (go_at_call 62; refine (HC.out _).mono ?_; rintro e wx ⟨rfl, hwx⟩; obtain rfl := hwx)
    go_ret
    exact ⟨rfl, Below.refl _ _⟩
  | false =>
    rw [h1] at HC
    clear h1
    cases h2 : hasAny [59, 34] s.data.toList with
    | true =>
      rw [show (⟨#[59, 34]⟩ : ByteArray).data.toList = [59, 34] from rfl, h2] at HA
      clear h2
      go_enter Tryz.func59, Tryz.ntmps59
      go_wp2_with (first
        | (go_at_call 62; refine (HC.out _).mono ?_; rintro e wx ⟨rfl, hwx⟩; obtain rfl := hwx)
        | (go_at_call 75; refine (HA.out _).mono ?_; rintro e w1 ⟨rfl, hb1⟩; have HB1 := hide hb1; clear hb1))
      go_ret
      exact ⟨rfl, HB1.out⟩
    | false =>
      rw [show (⟨#[59, 34]⟩ : ByteArray).data.toList = [59, 34] from rfl, h2] at HA
      clear h2
      go_enter Tryz.func59, Tryz.ntmps59
      go_wp2_with (first
        | (go_at_call 62; refine (HC.out _).mono ?_; rintro e wx ⟨rfl, hwx⟩; obtain rfl := hwx)
        | (go_at_call 75; refine (HA.out _).mono ?_; rintro e w1 ⟨rfl, hb1⟩; have HB1 := hide hb1; clear hb1)
        | (go_at_call 51; refine (HS.out _).mono ?_; rintro e w2 ⟨rfl, hb2⟩; have HB2 := hide (HB1.out.trans (hb2.mono HB1.out.size)); clear hb2))
      go_ret
      exact ⟨rfl, HB2.out⟩
end Go.Proofs.YtcmmbceacjechaaGreatDoor
