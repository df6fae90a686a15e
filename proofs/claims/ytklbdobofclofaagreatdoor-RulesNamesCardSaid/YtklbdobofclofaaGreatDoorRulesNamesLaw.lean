/- WALK of the law RulesNames. No statement is proved here. Own work of the verifier. -/
import Derived.Test.YtklbdobofclofaaGreatDoorRulesL0
namespace Go.Proofs.YtklbdobofclofaaGreatDoor
open Go.RowKit
set_option linter.unusedVariables false
set_option linter.unusedSimpArgs false
set_option maxRecDepth 100000
set_option maxHeartbeats 2000000 in
theorem law_RulesNames (e : ByteArray) (he : e.size ≤ maxLen) (n : ByteArray) (hn : n.size ≤ maxLen) (w : World) (hE : EnvR w) :
    Calls Tryz.prog 3 #[.string e, .string n] w fun x w' => x = .returned (.bool true) ∧ Below w.heap.size w w' := by
  have HE := hide hE
  clear hE he hn
  obtain ⟨K, hK⟩ : ∃ K : Int, ((elemN e.data.toList : Nat) : Int) = K := ⟨_, rfl⟩
  obtain ⟨b, hb⟩ : ∃ b, attrB e.data.toList n.data.toList = b := ⟨_, rfl⟩
  have t0 : (K == K) = true := beq_self_eq_true K
  have t1 : (b == b) = true := beq_self_eq_true b
  have H1 := hide (fun w2 => element_any e w2)
  have H2 := hide (fun w2 => ref18Element_any e w2)
  have H3 := hide (fun w2 => attr_any e n w2)
  have H4 := hide (fun w2 => ref18Attr_any e n w2)
  rw [hK] at H1 H2
  rw [hb] at H3 H4
  clear hK hb
  go_enter Tryz.func3, Tryz.ntmps3
  go_wp2_with fail
  refine (H1.out _).mono ?_
  rintro x w1 ⟨rfl, rfl⟩
  go_wp2_with fail
  refine (H2.out _).mono ?_
  rintro x w1 ⟨rfl, rfl⟩
  go_wp2_with fail
  refine (H3.out _).mono ?_
  rintro x w1 ⟨rfl, rfl⟩
  go_wp2_with fail
  refine (H4.out _).mono ?_
  rintro x w1 ⟨rfl, rfl⟩
  go_wp2_with fail
  refine (live18_any _ HE.out).mono ?_
  rintro x w1 ⟨rfl, hb⟩
  go_wp2_with fail
  go_ret
  exact ⟨rfl, hb⟩
end Go.Proofs.YtklbdobofclofaaGreatDoor
