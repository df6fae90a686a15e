import Derived.Test.YtiejmkjpgjbodaaGreatDoorArBd
import Derived.Test.YtiejmkjpgjbodaaGreatDoorRef14L
import Derived.Test.YtiejmkjpgjbodaaGreatDoorRef14E
import Derived.Test.YtiejmkjpgjbodaaGreatDoorRef14D
import Derived.Test.YtiejmkjpgjbodaaGreatDoorTreeD
import Derived.Test.YtiejmkjpgjbodaaGreatDoorTreeY
import Derived.Test.YtiejmkjpgjbodaaGreatDoorTreeA
namespace Go.Proofs.YtiejmkjpgjbodaaGreatDoor
open Go.RowKit
set_option linter.unusedVariables false
set_option linter.unusedSimpArgs false
set_option maxRecDepth 100000
set_option maxHeartbeats 8000000 in
theorem law_TreeBuilds (s : ByteArray) (hss : s.size ≤ maxLen) (w : World) (hE : EnvX w) :
    Calls Tryz.prog 4 #[.string s] w fun e w' => e = .returned (.bool true) ∧ Below w.heap.size w w' := by
  have HE := hide hE
  have HLV : Hid (∀ w', Below w.heap.size w w' → Calls Tryz.prog 11 #[] w' fun e w'' => e = .returned (.bool true) ∧ Below w.heap.size w w'') := hide (fun w' hb => (live14_any w' (HE.out.kept hb)).mono fun e w2 ⟨h1, h2⟩ => ⟨h1, bl_two hb h2⟩)
  clear hE hss
  rcases Nat.lt_or_ge 1200 s.size with hqs | hs
  · have t0 : decide ((1200 : Int) < s.size) = true := decide_eq_true (by omega)
    go_enter Tryz.func4, Tryz.ntmps4
    go_wp2_with fail
    refine (HLV.out w (Below.refl _ _)).mono ?_
    rintro e wl ⟨rfl, hb⟩
    have HBL := hide hb
    clear hb
    go_wp2_with fail
    go_ret
    exact ⟨rfl, HBL.out⟩
  have t0 : decide ((1200 : Int) < s.size) = false := decide_eq_false (by omega)
  obtain ⟨T, hT⟩ : ∃ T, T = buildP (scanL decE [] [] s.data.toList) := ⟨_, rfl⟩
  have hcnt : T.count ≤ 5000 := by rw [hT]; exact (build_count _).1
  have hfew : T.all attrsFew = true := by rw [hT]; exact build_few s
  have HA : Hid (∀ w', Below w.heap.size w w' → Calls Tryz.prog 12 #[.string s] w' fun e w'' => ∃ u, e = .returned u ∧ NodesIn w'' u T ∧ Below w'.heap.size w' w'') := hide (fun w' hb => by
    have hE' := HE.out.kept hb
    obtain ⟨m, hm⟩ := hE'.2
    rw [hT]
    exact treeBuild_any s m w' (by omega) hE'.1 hm)
  have HB : Hid (∀ w', Calls Tryz.prog 13 #[.string s] w' fun e w'' => ∃ u, e = .returned u ∧ NodesIn w'' u T ∧ Below w'.heap.size w' w'') := hide (fun w' => by
    rw [hT]
    exact refBuild_any s w' (by omega))
  have HS : Hid (∀ u v w', NodesIn w' u T → NodesIn w' v T → Calls Tryz.prog 14 #[u, v] w' fun e w'' => e = .returned (.bool true) ∧ Below w'.heap.size w' w'') := hide (fun u v w' hu hv => by
    refine (same14_any _ _ T T w' (by omega) hu hv hfew).mono ?_
    rintro e w2 ⟨rfl, m, rfl⟩
    exact ⟨by rw [decide_eq_true rfl], below_of13 ⟨m, rfl⟩⟩)
  have HC1 : Hid (∀ u w', NodesIn w' u T → Calls Tryz.prog 15 #[u] w' fun e w'' => e = .returned (.int .i64 (T.count : Int)) ∧ Below w'.heap.size w' w'') := hide (fun u w' hu => count14_any u T w' hu (by omega))
  have HC2 : Hid (∀ u w', NodesIn w' u T → Calls Tryz.prog 16 #[u] w' fun e w'' => e = .returned (.int .i64 (T.count : Int)) ∧ Below w'.heap.size w' w'') := hide (fun u w' hu => countR_any u T w' hu (by omega))
  have HD1 : Hid (∀ u w', NodesIn w' u T → Calls Tryz.prog 17 #[u] w' fun e w'' => e = .returned (.int .i64 (T.depth : Int)) ∧ Below w'.heap.size w' w'') := hide (fun u w' hu => depth14_any u T w' hu (by omega))
  have HD2 : Hid (∀ u w', NodesIn w' u T → Calls Tryz.prog 10 #[u] w' fun e w'' => e = .returned (.int .i64 (T.depth : Int)) ∧ Below w'.heap.size w' w'') := hide (fun u w' hu => depthR_any u T w' hu (by omega))
  obtain ⟨N, hN⟩ : ∃ N, N = T.count := ⟨_, rfl⟩
  obtain ⟨D, hD⟩ : ∃ D, D = T.depth := ⟨_, rfl⟩
  rw [← hN] at HC1 HC2
  rw [← hD] at HD1 HD2
  clear hT hcnt hfew hs hN hD
  go_enter Tryz.func4, Tryz.ntmps4
  go_wp2_with fail
  refine (HA.out w (Below.refl _ _)).mono ?_
  rintro e w1 ⟨u, rfl, hu, hb1⟩
  obtain ⟨A1, k1, rfl⟩ := hu.form
  have HU := hide hu
  have HB1 := hide hb1
  clear hu hb1
  go_wp2_with fail
  refine (HB.out w1).mono ?_
  rintro e w2 ⟨v, rfl, hv, hb2⟩
  obtain ⟨A2, k2, rfl⟩ := hv.form
  have HV := hide hv
  have HU2 := hide (HU.out.kept hb2)
  have HB2 := hide (bl_two HB1.out hb2)
  clear hv hb2
  go_wp2_with fail
  refine (HS.out _ _ w2 HU2.out HV.out).mono ?_
  rintro e w3 ⟨rfl, hb3⟩
  have HU3 := hide (HU2.out.kept hb3)
  have HV3 := hide (HV.out.kept hb3)
  have HB3 := hide (bl_two HB2.out hb3)
  clear hb3
  go_wp2_with fail
  refine (HC1.out _ w3 HU3.out).mono ?_
  rintro e w4 ⟨rfl, hb4⟩
  have HU4 := hide (HU3.out.kept hb4)
  have HV4 := hide (HV3.out.kept hb4)
  have HB4 := hide (bl_two HB3.out hb4)
  clear hb4
  go_wp2_with fail
  refine (HC2.out _ w4 HV4.out).mono ?_
  rintro e w5 ⟨rfl, hb5⟩
  have HU5 := hide (HU4.out.kept hb5)
  have HV5 := hide (HV4.out.kept hb5)
  have HB5 := hide (bl_two HB4.out hb5)
  clear hb5
  go_wp2_with fail
  refine (HD1.out _ w5 HU5.out).mono ?_
  rintro e w6 ⟨rfl, hb6⟩
  have HV6 := hide (HV5.out.kept hb6)
  have HB6 := hide (bl_two HB5.out hb6)
  clear hb6
  go_wp2_with fail
  refine (HD2.out _ w6 HV6.out).mono ?_
  rintro e w7 ⟨rfl, hb7⟩
  have HB7 := hide (bl_two HB6.out hb7)
  clear hb7
  go_wp2_with fail
  refine (HLV.out w7 HB7.out).mono ?_
  rintro e w8 ⟨rfl, hb8⟩
  have HB8 := hide hb8
  clear hb8
  go_wp2_with fail
  go_ret
  exact ⟨rfl, HB8.out⟩
end Go.Proofs.YtiejmkjpgjbodaaGreatDoor
