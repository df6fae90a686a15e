/- WALK of the law TreeEnds. No statement is proved here. Own work of the verifier. -/
import Derived.Test.YtgokefodmjhhiaaGreatDoorRef14L
import Derived.Test.YtgokefodmjhhiaaGreatDoorTreeA
namespace Go.Proofs.YtgokefodmjhhiaaGreatDoor
open Go.RowKit
set_option linter.unusedVariables false
set_option linter.unusedSimpArgs false
set_option maxRecDepth 100000
set_option maxHeartbeats 8000000 in
theorem law_TreeEnds (s : ByteArray) (hss : s.size ≤ maxLen) (w : World) (hE : EnvX w) :
    Calls Tryz.prog 10 #[.string s] w fun e w' => e = .returned (.bool true) ∧ Below w.heap.size w w' := by
  have HE := hide hE
  clear hE
  unfold maxLen at hss
  rcases Nat.lt_or_ge 1000 s.size with hqs | hs
  · have t0 : decide ((1000 : Int) < s.size) = true := decide_eq_true (by omega)
    go_enter Tryz.func10, Tryz.ntmps10
    go_wp2_with fail
    refine (live14_any _ HE.out).mono ?_
    rintro e wl ⟨rfl, hbl⟩
    have HBL := hide (hbl)
    clear hbl
    go_wp2_with fail
    go_ret
    exact ⟨rfl, HBL.out⟩
  have t0 : decide ((1000 : Int) < s.size) = false := decide_eq_false (by omega)
  obtain ⟨m, hm⟩ := HE.out.2
  have HB1 := hide (treeBuild_any s m w (by omega) HE.out.1 hm)
  obtain ⟨P, hP⟩ : ∃ P, P = (⟨#[60, 47, 98, 62, 60, 47, 112, 62, 60, 47, 100, 105, 118, 62, 60, 47, 120, 62]⟩ : ByteArray) ++ s := ⟨_, rfl⟩
  have hPz : P.size = 18 + s.size := by rw [hP, ByteArray.size_append]; rfl
  have hPe : buildP (scanL decE [] [] P.data.toList) = buildP (scanL decE [] [] s.data.toList) := by
    have : P.data.toList = [60, 47, 98, 62, 60, 47, 112, 62, 60, 47, 100, 105, 118, 62, 60, 47, 120, 62] ++ s.data.toList := by rw [hP]; simp
    rw [this]; exact build_ends _
  have HPZ := hide (show P.size ≤ 1000000 by omega)
  have HPE := hide hPe
  have HFW := hide (build_few s)
  have HSM := hide (build_small s)
  have q1 : ¬ (9223372036854775807 < 18 + s.size) := by omega
  have hsz : (⟨#[60, 47, 98, 62, 60, 47, 112, 62, 60, 47, 100, 105, 118, 62, 60, 47, 120, 62]⟩ : ByteArray).size = 18 := rfl
  have HP := hide hP
  clear hm hPz hPe hP
  go_enter Tryz.func10, Tryz.ntmps10
  go_wp2_with fail
  refine HB1.out.mono ?_
  rintro e w1 ⟨v1, rfl, hn1, hb1⟩
  obtain ⟨A1, c1, rfl⟩ := NodesC.form hn1
  have HN1 := hide hn1
  have HBB1 := hide hb1
  have hE1 := HE.out.kept hb1
  obtain ⟨m1, hm1⟩ := hE1.2
  have HE1 := hide hE1
  have HB2 := hide (treeBuild_any P m1 w1 HPZ.out hE1.1 hm1)
  clear hn1 hb1 hE1 hm1
  go_wp2_with fail
  rw [← HP.out]
  refine HB2.out.mono ?_
  rintro e w2 ⟨v2, rfl, hn2, hb2⟩
  rw [HPE.out] at hn2
  obtain ⟨A2, c2, rfl⟩ := NodesC.form hn2
  have HS := hide (same14_any _ _ _ _ _ HSM.out.1 (HN1.out.kept hb2) hn2 HFW.out)
  rw [decide_eq_true rfl] at HS
  have HE2 := hide (HE1.out.kept hb2)
  have HBB2 := hide (HBB1.out.trans (hb2.mono HBB1.out.size))
  clear hn2 hb2
  go_wp2_with fail
  refine HS.out.mono ?_
  rintro e w3 ⟨rfl, q, hq⟩
  have hb3 := below_of13 (w := w2) (w' := w3) ⟨q, hq⟩
  have HE3 := hide (HE2.out.kept hb3)
  have HBB3 := hide (HBB2.out.trans (hb3.mono HBB2.out.size))
  clear hq hb3
  go_wp2_with fail
  refine (live14_any _ HE3.out).mono ?_
  rintro e wl ⟨rfl, hbl⟩
  have HBL := hide (HBB3.out.trans (hbl.mono HBB3.out.size))
  clear hbl
  go_wp2_with fail
  go_ret
  exact ⟨rfl, HBL.out⟩
end Go.Proofs.YtgokefodmjhhiaaGreatDoor
