/- WALK of the law CharsDecodes. No statement is proved here. -/
import Derived.Test.YtommgcihcadeaaaDoorCharsLaw0
import Derived.Test.YtommgcihcadeaaaDoorRefD
namespace Go.Proofs.YtommgcihcadeaaaDoor
open Go.RowKit
set_option linter.unusedVariables false
set_option linter.unusedSimpArgs false

set_option maxHeartbeats 2000000 in
theorem law_CharsDecodes (label : ByteArray) (hlabellabel : label.size ≤ maxLen) (s : ByteArray) (hss : s.size ≤ maxLen) (w : World) (hT : Tab w) :
    Calls Tryd.prog 3 #[.string label, .string s] w fun e w' => e = .returned (.bool true) ∧ Below w.heap.size w w' := by
  have H0 := hide hT.lt
  have HT := hide hT
  clear hT
  rcases Nat.lt_or_ge 5000 s.size with hqs | hs
  · have HDs : Hid (decide (s.size ≤ 5000) = false) := decide_eq_false (by omega)
    go_enter Tryd.func3, Tryd.ntmps3
    go_wp2_with fail
    refine (short4_any s _ hss).mono ?_
    rintro e w1 ⟨rfl, rfl⟩
    rw [HDs.out]
    go_wp2_with fail
    refine (live4_any _ (HT.out.below (Below.refl _ _) H0.out)).mono ?_
    rintro e w1 ⟨rfl, hb1⟩
    go_wp2_with fail
    go_ret
    exact ⟨rfl, hb1⟩
  have HDs : Hid (decide (s.size ≤ 5000) = true) := decide_eq_true hs
  rcases Nat.lt_or_ge 5000 label.size with hqlabel | hlabel
  · have HDlabel : Hid (decide (label.size ≤ 5000) = false) := decide_eq_false (by omega)
    go_enter Tryd.func3, Tryd.ntmps3
    go_wp2_with fail
    refine (short4_any s _ hss).mono ?_
    rintro e w1 ⟨rfl, rfl⟩
    rw [HDs.out]
    go_wp2_with fail
    refine (short4_any label _ hlabellabel).mono ?_
    rintro e w1 ⟨rfl, rfl⟩
    rw [HDlabel.out]
    go_wp2_with fail
    refine (live4_any _ (HT.out.below (Below.refl _ _) H0.out)).mono ?_
    rintro e w1 ⟨rfl, hb1⟩
    go_wp2_with fail
    go_ret
    exact ⟨rfl, hb1⟩
  have HDlabel : Hid (decide (label.size ≤ 5000) = true) := decide_eq_true hlabel
  have hD : decV (kindL label.data.toList) s.data.toList = .tuple #[.string (str (decodeL (kindL label.data.toList) s.data.toList)), .bool (decide (0 < kindL label.data.toList))] := rfl
  have hK : knownV (kindL label.data.toList) = .tuple #[.string (str (nameL (kindL label.data.toList))), .bool (decide (0 < kindL label.data.toList))] := rfl
  have HD := hide hD
  have HK := hide hK
  clear hD hK
  generalize str (decodeL (kindL label.data.toList) s.data.toList) = t at HD
  generalize str (nameL (kindL label.data.toList)) = nm at HK
  generalize decide (0 < kindL label.data.toList) = kb at HD HK
  go_enter Tryd.func3, Tryd.ntmps3
  go_wp2_with fail
  refine (short4_any s _ hss).mono ?_
  rintro e w1 ⟨rfl, rfl⟩
  rw [HDs.out]
  go_wp2_with fail
  refine (short4_any label _ hlabellabel).mono ?_
  rintro e w1 ⟨rfl, rfl⟩
  rw [HDlabel.out]
  go_wp2_with fail
  refine (charsDecode_any label s _ (by omega) (by omega) HT.out).mono ?_
  rintro e w1 ⟨rfl, hb1⟩
  rw [HD.out]
  go_wp2_with fail
  refine (refCharsDecode_any label s _ (by omega) (by omega)).mono ?_
  rintro e w2 ⟨rfl, hb2⟩
  rw [HD.out]
  have k2 := hb1.trans (hb2.mono hb1.size)
  go_wp2_with fail
  refine (known_any label _ (by omega)).mono ?_
  rintro e w3 ⟨rfl, hb3⟩
  rw [HK.out]
  have k3 := k2.trans (hb3.mono k2.size)
  go_wp2_with fail
  refine (refKnown_any label _ (by omega)).mono ?_
  rintro e w4 ⟨rfl, hb4⟩
  rw [HK.out]
  have k4 := k3.trans (hb4.mono k3.size)
  go_wp2_with fail
  refine (live4_any _ (HT.out.below k4 H0.out)).mono ?_
  rintro e wl ⟨rfl, hbl⟩
  go_wp2_with fail
  go_ret
  exact ⟨rfl, k4.trans (hbl.mono k4.size)⟩
end Go.Proofs.YtommgcihcadeaaaDoor
