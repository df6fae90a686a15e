/- WALK of the law StampParses. The statement itself: the row's text. -/
import Derived.Test.YtiojfknphpnlhaaDoorStampLaw0
import Derived.Test.YtiojfknphpnlhaaDoorStampH
namespace Go.Proofs.YtiojfknphpnlhaaDoor
set_option maxRecDepth 100000
open Go.RowKit
set_option linter.unusedVariables false
set_option linter.unusedSimpArgs false

set_option maxHeartbeats 400000 in
theorem law_StampParses (s : ByteArray) (hs : s.size ≤ maxLen) (w : World) (hE : EnvS w) :
    Calls Tryd.prog 3 #[.string s] w fun e w' => e = .returned (.bool true) ∧ Below w.heap.size w w' := by
  have HE := hide hE
  unfold maxLen at hs
  clear hE
  by_cases h3 : 300 < s.size
  · have t3 : decide ((300 : Int) < (s.size : Int)) = true := decide_eq_true (by omega)
    go_enter Tryd.func3, Tryd.ntmps3
    go_wp2_with fail
    refine (live9_any _ HE.out).mono ?_
    rintro e wl ⟨rfl, hbl⟩
    have HBL := hide hbl
    clear hbl
    go_wp2_with fail
    go_ret
    exact ⟨rfl, HBL.out⟩
  · have t3 : decide ((300 : Int) < (s.size : Int)) = false := decide_eq_false (by omega)
    have h1 : s.size ≤ 1000 := by omega
    obtain ⟨V, hV⟩ : ∃ V, V = parseO s.data.toList := ⟨_, rfl⟩
    have HV := hide hV.symm
    clear hV
    cases V with
    | none =>
      go_enter Tryd.func3, Tryd.ntmps3
      go_wp2_with fail
      refine (parse_any s _ HE.out h1).mono ?_
      rintro e w1 ⟨rfl, hb1⟩
      rw [HV.out, show parV none = .tuple #[.int .i64 0, .int .i64 2] from rfl]
      have HB := hide hb1
      clear hb1
      go_wp2_with fail
      refine (refParse_any s _ h1).mono ?_
      rintro e w2 ⟨rfl, hb2⟩
      rw [HV.out, show parV none = .tuple #[.int .i64 0, .int .i64 2] from rfl]
      have HB2 := hide (HB.out.trans (hb2.mono HB.out.size))
      clear hb2
      go_wp2_with fail
      refine (live9_any _ (HE.out.kept HB2.out)).mono ?_
      rintro e wl ⟨rfl, hbl⟩
      have HBL := hide (HB2.out.trans (hbl.mono HB2.out.size))
      clear hbl
      go_wp2_with fail
      go_ret
      exact ⟨rfl, HBL.out⟩
    | some n =>
      go_enter Tryd.func3, Tryd.ntmps3
      go_wp2_with fail
      refine (parse_any s _ HE.out h1).mono ?_
      rintro e w1 ⟨rfl, hb1⟩
      rw [HV.out, show parV (some n) = .tuple #[.int .i64 n, .int .i64 0] from rfl]
      have HB := hide hb1
      clear hb1
      go_wp2_with fail
      refine (refParse_any s _ h1).mono ?_
      rintro e w2 ⟨rfl, hb2⟩
      rw [HV.out, show parV (some n) = .tuple #[.int .i64 n, .int .i64 0] from rfl]
      have HB2 := hide (HB.out.trans (hb2.mono HB.out.size))
      clear hb2
      go_wp2_with fail
      refine (live9_any _ (HE.out.kept HB2.out)).mono ?_
      rintro e wl ⟨rfl, hbl⟩
      have HBL := hide (HB2.out.trans (hbl.mono HB2.out.size))
      clear hbl
      go_wp2_with fail
      go_ret
      exact ⟨rfl, HBL.out⟩
end Go.Proofs.YtiojfknphpnlhaaDoor
