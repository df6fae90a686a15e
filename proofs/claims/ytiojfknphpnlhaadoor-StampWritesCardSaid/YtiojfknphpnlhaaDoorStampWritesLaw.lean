/- WALK of the law StampWrites. The statement itself: the row's text. -/
import Derived.Test.YtiojfknphpnlhaaDoorStampLaw0
import Derived.Test.YtiojfknphpnlhaaDoorStampV
namespace Go.Proofs.YtiojfknphpnlhaaDoor
set_option maxRecDepth 100000
open Go.RowKit
set_option linter.unusedVariables false
set_option linter.unusedSimpArgs false

set_option maxHeartbeats 400000 in
theorem law_StampWrites (n : Int) (w : World) (hE : EnvS w) :
    Calls Tryd.prog 4 #[.int .i64 n] w fun e w' => e = .returned (.bool true) ∧ Below w.heap.size w w' := by
  have HE := hide hE
  clear hE
  by_cases h : n < -2208988800 ∨ 253402300800 ≤ n
  · have H := hide h
    clear h
    go_enter Tryd.func4, Tryd.ntmps4
    go_wp2_with fail
    refine (writeNo_any n _ H.out).mono ?_
    rintro e w1 ⟨rfl, rfl⟩
    go_wp2_with fail
    refine (refWriteNo_any n _ H.out).mono ?_
    rintro e w1 ⟨rfl, rfl⟩
    go_wp2_with fail
    refine (live9_any _ HE.out).mono ?_
    rintro e wl ⟨rfl, hbl⟩
    have HBL := hide hbl
    clear hbl
    go_wp2_with fail
    go_ret
    exact ⟨rfl, HBL.out⟩
  · have h1 : -2208988800 ≤ n := by omega
    have h2 : n < 253402300800 := by omega
    clear h
    go_enter Tryd.func4, Tryd.ntmps4
    go_wp2_with fail
    refine (writeYes_any n _ HE.out h1 h2).mono ?_
    rintro e w1 ⟨y, m, d, hm, hd, rfl, hb⟩
    obtain ⟨S, hS⟩ : ∃ S, S = str (textL (n / 86400) y m d (n % 86400)) := ⟨_, rfl⟩
    rw [← hS]
    have HB := hide hb
    have HS := hide hS
    have HM := hide hm
    have HD := hide hd
    clear hS hm hd hb
    go_wp2_with fail
    refine (refWriteYes_any n _ h1 h2).mono ?_
    rintro e w2 ⟨y', m', d', hm', hd', rfl, hb'⟩
    obtain ⟨rfl, rfl, rfl⟩ := days_one HM.out hm' (HD.out.trans hd'.symm)
    rw [← HS.out]
    have HB2 := hide (HB.out.trans (hb'.mono HB.out.size))
    clear hm' hd' hb'
    go_wp2_with fail
    refine (live9_any _ (HE.out.kept HB2.out)).mono ?_
    rintro e wl ⟨rfl, hbl⟩
    have HBL := hide (HB2.out.trans (hbl.mono HB2.out.size))
    clear hbl
    go_wp2_with fail
    go_ret
    exact ⟨rfl, HBL.out⟩
end Go.Proofs.YtiojfknphpnlhaaDoor
