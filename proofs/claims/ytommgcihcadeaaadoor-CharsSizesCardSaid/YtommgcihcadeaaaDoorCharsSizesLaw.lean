/- WALK of the law CharsSizes. No statement is proved here. -/
import Derived.Test.YtommgcihcadeaaaDoorCharsLaw0
namespace Go.Proofs.YtommgcihcadeaaaDoor
open Go.RowKit
set_option linter.unusedVariables false
set_option linter.unusedSimpArgs false

set_option maxHeartbeats 2000000 in
theorem law_CharsSizes (label : ByteArray) (hlabellabel : label.size ≤ maxLen) (s : ByteArray) (hss : s.size ≤ maxLen) (w : World) (hT : Tab w) :
    Calls Tryd.prog 9 #[.string label, .string s] w fun e w' => e = .returned (.bool true) ∧ Below w.heap.size w w' := by
  have H0 := hide hT.lt
  have HT := hide hT
  clear hT
  rcases Nat.lt_or_ge 5000 label.size with hqlabel | hlabel
  · have HDlabel : Hid (decide (label.size ≤ 5000) = false) := decide_eq_false (by omega)
    go_enter Tryd.func9, Tryd.ntmps9
    go_wp2_with fail
    refine (short4_any label _ hlabellabel).mono ?_
    rintro e w1 ⟨rfl, rfl⟩
    rw [HDlabel.out]
    go_wp2_with fail
    refine (live4_any _ (HT.out.below (Below.refl _ _) H0.out)).mono ?_
    rintro e w1 ⟨rfl, hb1⟩
    go_wp2_with fail
    go_ret
    exact ⟨rfl, hb1⟩
  have HDlabel : Hid (decide (label.size ≤ 5000) = true) := decide_eq_true hlabel
  rcases Nat.lt_or_ge 5000 s.size with hqs | hs
  · have HDs : Hid (decide (s.size ≤ 5000) = false) := decide_eq_false (by omega)
    go_enter Tryd.func9, Tryd.ntmps9
    go_wp2_with fail
    refine (short4_any label _ hlabellabel).mono ?_
    rintro e w1 ⟨rfl, rfl⟩
    rw [HDlabel.out]
    go_wp2_with fail
    refine (short4_any s _ hss).mono ?_
    rintro e w1 ⟨rfl, rfl⟩
    rw [HDs.out]
    go_wp2_with fail
    refine (live4_any _ (HT.out.below (Below.refl _ _) H0.out)).mono ?_
    rintro e w1 ⟨rfl, hb1⟩
    go_wp2_with fail
    go_ret
    exact ⟨rfl, hb1⟩
  have HDs : Hid (decide (s.size ≤ 5000) = true) := decide_eq_true hs
  have hD : decV (kindL label.data.toList) s.data.toList = .tuple #[.string (str (decodeL (kindL label.data.toList) s.data.toList)), .bool (decide (0 < kindL label.data.toList))] := rfl
  have z1 := decodeL_length (kindL label.data.toList) s.data.toList
  have z2 := validL_length s.data.toList
  rw [toList_length] at z1 z2
  obtain ⟨t, ht⟩ : ∃ t, t = str (decodeL (kindL label.data.toList) s.data.toList) := ⟨_, rfl⟩
  obtain ⟨v, hv⟩ : ∃ v, v = str (validL s.data.toList) := ⟨_, rfl⟩
  have zt : t.size ≤ 3 * s.size := by rw [ht, str_size]; exact z1
  have zv : v.size ≤ 3 * s.size := by rw [hv, str_size]; exact z2
  rw [← ht] at hD
  have HD := hide hD
  have HV := hide hv
  have y1 : (t.size : Int) ≤ 3 * (s.size : Int) := by omega
  have y2 : (v.size : Int) ≤ 3 * (s.size : Int) := by omega
  generalize decide (0 < kindL label.data.toList) = kb at HD
  clear hD ht hv z1 z2
  go_enter Tryd.func9, Tryd.ntmps9
  go_wp2_with fail
  refine (short4_any label _ hlabellabel).mono ?_
  rintro e w1 ⟨rfl, rfl⟩
  rw [HDlabel.out]
  go_wp2_with fail
  refine (short4_any s _ hss).mono ?_
  rintro e w1 ⟨rfl, rfl⟩
  rw [HDs.out]
  go_wp2_with fail
  refine (charsDecode_any label s _ (by omega) (by omega) HT.out).mono ?_
  rintro e w1 ⟨rfl, hb1⟩
  rw [HD.out]
  go_wp2_with fail
  refine (valid_any s _ (by omega)).mono ?_
  rintro e w2 ⟨rfl, hb2⟩
  rw [← HV.out]
  go_wp2_with fail
  have k2 := hb1.trans (hb2.mono hb1.size)
  refine (live4_any _ (HT.out.below k2 H0.out)).mono ?_
  rintro e wl ⟨rfl, hbl⟩
  go_wp2_with fail
  go_ret
  exact ⟨rfl, k2.trans (hbl.mono k2.size)⟩
end Go.Proofs.YtommgcihcadeaaaDoor
