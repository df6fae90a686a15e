/- WALK of the law PlainTexts. Written by wip/tools/plaintexts.py. No statement is proved here. Own work of the verifier. -/
import Derived.Test.YtdeaofnhdbhknaaPnLv
import Derived.Test.YtdeaofnhdbhknaaPnRd
import Derived.Test.YtdeaofnhdbhknaaPlnK
namespace Go.Proofs.Ytdeaofnhdbhknaa
open Go.RowKit
set_option linter.unusedVariables false
set_option linter.unusedSimpArgs false
set_option maxRecDepth 100000
theorem small_cost (T : Tr) (ha : T.all smallH = true) : costT T ≤ T.count * 303 ∧ T.depth ≤ T.count := by
  induction T with
  | nil => exact ⟨Nat.le_refl _, Nat.le_refl _⟩
  | cons h K R ihK ihR =>
    simp only [Tr.all, Bool.and_eq_true] at ha
    obtain ⟨k1, k2⟩ := ihK ha.2.1
    obtain ⟨r1, r2⟩ := ihR ha.2.2
    have ht : h.text.length ≤ 300 := by
      have := ha.1
      simp [smallH, fitT] at this
      omega
    simp only [costT, Tr.count, Tr.depth]
    omega
set_option maxHeartbeats 4000000 in
theorem law_PlainTexts (v : Value) (T : Tr) {w : World} (hT : NodesIn w v T) :
    Calls Try.prog 4 #[v] w fun e w' => e = .returned (.bool true) ∧ Below w.heap.size w w' := by
  have hL0 : ∀ w1 : World, Below w.heap.size w w1 → Calls Try.prog 9 #[] w1 fun e w' => e = .returned (.bool true) ∧ Below w.heap.size w w' := fun w1 hb => (live20_any w1).mono fun e w' ⟨h1, h2⟩ => ⟨h1, bl_two hb h2⟩
  have hm : T.len ≤ maxLen := by
    rcases hT with ⟨_, rfl⟩ | ⟨a, cap, _, h2, h3, _⟩
    · exact Nat.zero_le _
    · exact Nat.le_trans h2 h3
  have HLV := hide hL0
  have HS := hide (small14_any v T w hT hm)
  have H := hide hT
  clear hL0 hT hm
  go_enter Try.func4, Try.ntmps4
  go_wp2_with fail
  refine HS.out.mono ?_
  rintro e w1 ⟨b, rfl, hsm, hb1⟩
  have HB1 := hide hb1
  have HSM := hide hsm
  clear hb1 hsm HS
  cases b with
  | false =>
    go_wp2_with fail
    refine (HLV.out w1 HB1.out).mono ?_
    rintro e wl ⟨rfl, hb⟩
    go_wp2_with fail
    go_ret
    exact ⟨rfl, hb⟩
  | true =>
    obtain ⟨hc, ha⟩ := HSM.out rfl
    obtain ⟨q1, q2⟩ := small_cost T ha
    obtain ⟨Z, hZ⟩ : ∃ Z, Z = str (textR T []) := ⟨_, rfl⟩
    have q5 : (Z.toList == Z.toList) = true := beq_self_eq_true _
    have HP := hide (plainText_any v T w1 (NodesIn.kept H.out HB1.out) (by omega) (by omega))
    have HR : Hid (∀ w2, Below w.heap.size w w2 → Calls Try.prog 17 #[v] w2 fun e w' => e = .returned (.string Z) ∧ Below w2.heap.size w2 w') := hide (fun w2 hb => by
      rw [hZ]
      refine refText_any v T w2 (by omega) ?_ (NodesIn.kept H.out hb)
      exact Nat.le_trans (Nat.mul_le_mul (show costT T ≤ 18180 by omega) (show 3 * T.depth + 1 ≤ 181 by omega)) (by decide))
    rw [show str (plainT T) = Z from hZ.symm] at HP
    clear hc ha q1 q2 hZ HSM
    go_wp2_with fail
    refine HP.out.mono ?_
    rintro e w2 ⟨rfl, hb2⟩
    have HB2 := hide (bl_two HB1.out hb2)
    clear hb2 HP
    go_wp2_with fail
    refine (HR.out w2 HB2.out).mono ?_
    rintro e w3 ⟨rfl, hb3⟩
    have HB3 := hide (bl_two HB2.out hb3)
    clear hb3 HR
    go_wp2_with fail
    refine (HLV.out w3 HB3.out).mono ?_
    rintro e wl ⟨rfl, hb⟩
    go_wp2_with fail
    go_ret
    exact ⟨rfl, hb⟩
end Go.Proofs.Ytdeaofnhdbhknaa
