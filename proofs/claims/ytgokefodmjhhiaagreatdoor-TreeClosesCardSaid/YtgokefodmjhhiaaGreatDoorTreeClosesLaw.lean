/- WALK of the law TreeCloses. No statement is proved here. Own work of the verifier. -/
import Derived.Test.YtgokefodmjhhiaaGreatDoorRef14L
import Derived.Test.YtgokefodmjhhiaaGreatDoorRef14N
namespace Go.Proofs.YtgokefodmjhhiaaGreatDoor
open Go.RowKit
set_option linter.unusedVariables false
set_option linter.unusedSimpArgs false
set_option maxRecDepth 100000
set_option maxHeartbeats 8000000 in
theorem law_TreeCloses (n : ByteArray) (hns : n.size ≤ maxLen) (o : ByteArray) (hos : o.size ≤ maxLen) (w : World) (hE : EnvX w) :
    Calls Tryz.prog 6 #[.string n, .string o] w fun e w' => e = .returned (.bool true) ∧ Below w.heap.size w w' := by
  have HE := hide hE
  have h1 := fun w => closes14_any n o w
  have h2 := fun w => rcloses14_any n o w
  have h3 := fun w => void14_any n w
  have h4 := fun w => rvoid14_any n w
  obtain ⟨b1, hb1⟩ : ∃ b, b = closesB n.data.toList o.data.toList := ⟨_, rfl⟩
  obtain ⟨b2, hb2⟩ : ∃ b, b = voidL.contains n.data.toList := ⟨_, rfl⟩
  rw [← hb1] at h1 h2
  rw [← hb2] at h3 h4
  have H1 := hide h1
  have H2 := hide h2
  have H3 := hide h3
  have H4 := hide h4
  have t1 : (b1 == b1) = true := by cases b1 <;> rfl
  have t2 : (b2 == b2) = true := by cases b2 <;> rfl
  clear hE h1 h2 h3 h4 hb1 hb2 hns hos
  go_enter Tryz.func6, Tryz.ntmps6
  go_wp2_with fail
  refine (H1.out _).mono ?_
  rintro e w1 ⟨rfl, rfl⟩
  go_wp2_with fail
  refine (H2.out _).mono ?_
  rintro e w1 ⟨rfl, rfl⟩
  go_wp2_with fail
  refine (H3.out _).mono ?_
  rintro e w1 ⟨rfl, rfl⟩
  go_wp2_with fail
  refine (H4.out _).mono ?_
  rintro e w1 ⟨rfl, rfl⟩
  go_wp2_with fail
  refine (live14_any _ HE.out).mono ?_
  rintro e wl ⟨rfl, hbl⟩
  have HBL := hide hbl
  clear hbl
  go_wp2_with fail
  go_ret
  exact ⟨rfl, HBL.out⟩
end Go.Proofs.YtgokefodmjhhiaaGreatDoor
