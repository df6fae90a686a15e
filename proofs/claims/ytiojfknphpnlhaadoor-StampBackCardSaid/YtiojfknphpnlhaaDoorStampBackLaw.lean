/- WALK of the law StampBack. The statement itself: the row's text. -/
import Derived.Test.YtiojfknphpnlhaaDoorStampLaw0
import Derived.Test.YtiojfknphpnlhaaDoorStampLawT
import Derived.Test.YtiojfknphpnlhaaDoorStampX
namespace Go.Proofs.YtiojfknphpnlhaaDoor
set_option maxRecDepth 100000
open Go.RowKit
set_option linter.unusedVariables false
set_option linter.unusedSimpArgs false

set_option maxHeartbeats 400000 in
theorem law_StampBack (n : Int) (w : World) (hE : EnvS w) :
    Calls Tryd.prog 6 #[.int .i64 n] w fun e w' => e = .returned (.bool true) ∧ Below w.heap.size w w' := by
  have HE := hide hE
  clear hE
  by_cases h : n < -2208988800 ∨ 253402300800 ≤ n
  · have H := hide h
    clear h
    go_enter Tryd.func6, Tryd.ntmps6
    go_wp2_with fail
    refine (writeNo_any n _ H.out).mono ?_
    rintro e w1 ⟨rfl, rfl⟩
    go_wp2_with fail
    refine (live9_any _ HE.out).mono ?_
    rintro e wl ⟨rfl, hbl⟩
    have HBL := hide hbl
    clear hbl
    go_wp2_with fail
    go_ret
    exact ⟨rfl, HBL.out⟩
  · have h1 : -2208988800 ≤ n := by omega
    have h2 : n < 253402300800 := by omega
    clear h
    go_enter Tryd.func6, Tryd.ntmps6
    go_wp2_with fail
    refine (writeYes_any n _ HE.out h1 h2).mono ?_
    rintro e w1 ⟨y, m, d, hm, hd, rfl, hb⟩
    obtain ⟨S, hS⟩ : ∃ S, S = str (textL (n / 86400) y m d (n % 86400)) := ⟨_, rfl⟩
    rw [← hS]
    have hlen : S.size = 31 := by rw [hS, str_size, textL_len _ _ _ _ _ hm.2.2.1 hm.2.2.2.1]
    have HP : Hid (parV (parseO S.data.toList) = .tuple #[.int .i64 n, .int .i64 0]) := hide (by
      rw [hS, str_toList, parse_text (n / 86400) y m d (n % 86400) hm hd (by omega) (by omega), show n / 86400 * 86400 + n % 86400 = n by omega]; rfl)
    have HB := hide hb
    clear hS hm hd hb
    go_wp2_with fail
    refine (parse_any S _ (HE.out.kept HB.out) (by omega)).mono ?_
    rintro e w2 ⟨rfl, hb2⟩
    rw [HP.out]
    have HB2 := hide (HB.out.trans (hb2.mono HB.out.size))
    clear hb2
    go_wp2_with fail
    refine (live9_any _ (HE.out.kept HB2.out)).mono ?_
    rintro e wl ⟨rfl, hbl⟩
    have HBL := hide (HB2.out.trans (hbl.mono HB2.out.size))
    clear hbl
    go_wp2_with fail
    go_ret
    exact ⟨rfl, HBL.out⟩
end Go.Proofs.YtiojfknphpnlhaaDoor
