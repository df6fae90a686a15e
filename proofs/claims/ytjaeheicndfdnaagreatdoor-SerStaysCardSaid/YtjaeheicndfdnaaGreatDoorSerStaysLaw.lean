/- WALK of the law SerStays. No statement is proved here. Own work of the verifier. -/
import Derived.Test.YtjaeheicndfdnaaGreatDoorRef15L
import Derived.Test.YtjaeheicndfdnaaGreatDoorRef14K
import Derived.Test.YtjaeheicndfdnaaGreatDoorSerP
namespace Go.Proofs.YtjaeheicndfdnaaGreatDoor
open Go.RowKit
set_option linter.unusedVariables false
set_option linter.unusedSimpArgs false
set_option maxRecDepth 100000
theorem stable_read {T : Tr} (h : stableB T = true) : buildP (scanL decE [] [] (writeT T)) = T := (of_decide_eq_true h).symm
set_option maxHeartbeats 8000000 in
theorem law_SerStays (v : Value) (T : Tr) {w : World} (hT : NodesIn w v T) (hE : EnvX w) :
    Calls Tryz.prog 5 #[v] w fun e w' => e = .returned (.bool true) ∧ Below w.heap.size w w' := by
  obtain ⟨A, c, rfl⟩ := NodesC.form hT
  have hm := (NodesC.cap hT)
  have HSM := hide (small14_any _ T w hT (Nat.le_trans hm.2.1 hm.2.2))
  have HE := hide hE
  have HT := hide hT
  clear hE hm hT
  obtain ⟨S, hS⟩ : ∃ S, S = str (writeT T) := ⟨_, rfl⟩
  have HK : Hid (∀ w', Below w.heap.size w w' → T.count ≤ 60 → T.all smallH = true → Calls Tryz.prog 23 #[.slice A T.len c] w' (fun e w'' => e = .returned (.bool (stableB T)) ∧ Below w'.heap.size w' w'') ∧
      Calls Tryz.prog 19 #[.slice A T.len c] w' (fun e w'' => e = .returned (.string S) ∧ Below w'.heap.size w' w'') ∧
      (stableB T = true → Calls Tryz.prog 9 #[.string S] w' (fun e w'' => ∃ u, e = .returned u ∧ NodesIn w'' u T ∧ Below w'.heap.size w' w''))) := hide (fun w' hb hc ha => by
    have hE' := HE.out.kept hb
    have hT' := HT.out.kept hb
    have hw := small_write hc ha
    refine ⟨serStable_any _ T w' hE' hT' ha (by omega) (by omega), ?_, fun hst => ?_⟩
    · have := serWrite_any _ T w' hE' hT' ha (by omega) (by omega)
      rw [← hS] at this; exact this
    · obtain ⟨m, hm⟩ := hE'.2
      have := treeBuild_any S m w' (by rw [hS, str_size]; omega) hE'.1 hm
      rw [show buildP (scanL decE [] [] S.data.toList) = T from by rw [hS, str_toList]; exact stable_read hst] at this
      exact this)
  have HK2 : Hid (∀ w' u, NodesIn w' u T → Below w.heap.size w w' → T.count ≤ 60 → T.all smallH = true → Calls Tryz.prog 23 #[u] w' (fun e w'' => e = .returned (.bool (stableB T)) ∧ Below w'.heap.size w' w'') ∧
      Calls Tryz.prog 19 #[u] w' (fun e w'' => e = .returned (.string S) ∧ Below w'.heap.size w' w'') ∧
      Calls Tryz.prog 11 #[u, .slice A T.len c] w' (fun e w'' => e = .returned (.bool true) ∧ Below w'.heap.size w' w'')) := hide (fun w' u hu hb hc ha => by
    have hE' := HE.out.kept hb
    have hT' := HT.out.kept hb
    have hw := small_write hc ha
    refine ⟨serStable_any _ T w' hE' hu ha (by omega) (by omega), ?_, ?_⟩
    · have := serWrite_any _ T w' hE' hu ha (by omega) (by omega)
      rw [← hS] at this; exact this
    · refine (same14_any _ _ T T w' (by omega) hu hT' (small_few ha)).mono ?_
      rintro e w2 ⟨rfl, m, rfl⟩
      exact ⟨by rw [decide_eq_true rfl], below_of13 ⟨m, rfl⟩⟩)
  clear hS
  go_enter Tryz.func5, Tryz.ntmps5
  go_wp2_with fail
  refine HSM.out.mono ?_
  rintro e w1 ⟨b, rfl, hs, hb1⟩
  have HB1 := hide hb1
  clear hb1
  cases b with
  | false =>
    clear hs
    go_wp2_with fail
    refine (live15_any _ (HE.out.kept HB1.out)).mono ?_
    rintro e wl ⟨rfl, hbl⟩
    have HBL := hide (bl_two HB1.out hbl)
    clear hbl
    go_wp2_with fail
    go_ret
    exact ⟨rfl, HBL.out⟩
  | true =>
  obtain ⟨hc, ha⟩ := hs rfl
  have HC := hide hc
  have HA := hide ha
  clear hc ha hs
  go_wp2_with fail
  refine (HK.out _ HB1.out HC.out HA.out).1.mono ?_
  rintro e w2 ⟨rfl, hb2⟩
  have HB2 := hide (bl_two HB1.out hb2)
  clear hb2
  cases st : stableB T with
  | false =>
    clear st
    go_wp2_with fail
    refine (live15_any _ (HE.out.kept HB2.out)).mono ?_
    rintro e wl ⟨rfl, hbl⟩
    have HBL := hide (bl_two HB2.out hbl)
    clear hbl
    go_wp2_with fail
    go_ret
    exact ⟨rfl, HBL.out⟩
  | true =>
  have HST := hide st
  clear st
  go_wp2_with fail
  refine (HK.out _ HB2.out HC.out HA.out).2.1.mono ?_
  rintro e w3 ⟨rfl, hb3⟩
  have HB3 := hide (bl_two HB2.out hb3)
  clear hb3
  go_wp2_with fail
  refine ((HK.out _ HB3.out HC.out HA.out).2.2 HST.out).mono ?_
  rintro e w4 ⟨u, rfl, hu, hb4⟩
  have HB4 := hide (bl_two HB3.out hb4)
  have HU := hide hu
  obtain ⟨A4, c4, rfl⟩ := NodesC.form hu
  clear hu hb4
  go_wp2_with fail
  refine (HK2.out _ _ HU.out HB4.out HC.out HA.out).2.2.mono ?_
  rintro e w5 ⟨rfl, hb5⟩
  have HB5 := hide (bl_two HB4.out hb5)
  have HU5 := hide (HU.out.kept hb5)
  clear hb5
  go_wp2_with fail
  refine (HK2.out _ _ HU5.out HB5.out HC.out HA.out).2.1.mono ?_
  rintro e w6 ⟨rfl, hb6⟩
  have HB6 := hide (bl_two HB5.out hb6)
  have HU6 := hide (HU5.out.kept hb6)
  clear hb6
  go_wp2_with fail
  refine (HK2.out _ _ HU6.out HB6.out HC.out HA.out).1.mono ?_
  rintro e w7 ⟨rfl, hb7⟩
  have HB7 := hide (bl_two HB6.out hb7)
  clear hb7
  rw [HST.out]
  go_wp2_with fail
  refine (live15_any _ (HE.out.kept HB7.out)).mono ?_
  rintro e w8 ⟨rfl, hb8⟩
  have HB8 := hide (bl_two HB7.out hb8)
  clear hb8
  go_wp2_with fail
  go_ret
  exact ⟨rfl, HB8.out⟩
end Go.Proofs.YtjaeheicndfdnaaGreatDoor
