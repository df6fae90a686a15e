/- WALK of the law B64Junk. No statement is proved here. -/
import Derived.Test.YtdjolkkifcjpdaaB64LawA
namespace Go.Proofs.Ytdjolkkifcjpdaa
open Go.RowKit
set_option linter.unusedVariables false
set_option linter.unusedSimpArgs false

/-- a byte that is a letter, or the sign of the end, as the law asks it -/
theorem junk_facts (c : UInt8) (h : ¬ (c.toNat = 61 ∨ c.toNat = 43 ∨ c.toNat = 47 ∨ (48 ≤ c.toNat ∧ c.toNat ≤ 57) ∨ (97 ≤ c.toNat ∧ c.toNat ≤ 122) ∨ (65 ≤ c.toNat ∧ c.toNat ≤ 90))) : c ≠ 61 ∧ ¬ val c < 64 := by
  have := u8_all (p := fun c => ¬ (c.toNat = 61 ∨ c.toNat = 43 ∨ c.toNat = 47 ∨ (48 ≤ c.toNat ∧ c.toNat ≤ 57) ∨ (97 ≤ c.toNat ∧ c.toNat ≤ 122) ∨ (65 ≤ c.toNat ∧ c.toNat ≤ 90)) → c ≠ 61 ∧ ¬ val c < 64) (by decide +kernel) c
  exact this h

set_option maxHeartbeats 2000000 in
theorem junk_live (s : ByteArray) (hs : s.size ≤ maxLen) (z : Int) (c : UInt8) (w : World)
    (h : 2000 < s.size ∨ s.size ≤ 2000 ∧ z < 0 ∨ s.size ≤ 2000 ∧ 0 ≤ z ∧ (c.toNat = 61 ∨ c.toNat = 43 ∨ c.toNat = 47 ∨ (48 ≤ c.toNat ∧ c.toNat ≤ 57) ∨ (97 ≤ c.toNat ∧ c.toNat ≤ 122) ∨ (65 ≤ c.toNat ∧ c.toNat ≤ 90))) :
    Calls Try.prog 8 #[.string s, .int .i64 z, .int .u8 c.toNat] w fun e w' => e = .returned (.bool true) ∧ Below w.heap.size w w' := by
  unfold maxLen at hs
  have hc := byte_lt c
  have fin : ∀ (W : World), Calls Try.prog 16 #[] W fun e w' => e = .returned (.bool true) ∧ Below W.heap.size W w' := live1_any
  have HF := hide fin
  clear fin
  rcases h with h | ⟨h, h0⟩ | ⟨h, h0, h1⟩
  · go_enter Try.func8, Try.ntmps8
    go_wp2_with fail
    refine (HF.out _).mono ?_
    rintro e w1 ⟨rfl, hb⟩
    go_wp2_with fail
    go_ret
    exact ⟨rfl, hb⟩
  · go_enter Try.func8, Try.ntmps8
    go_wp2_with fail
    refine (HF.out _).mono ?_
    rintro e w1 ⟨rfl, hb⟩
    go_wp2_with fail
    go_ret
    exact ⟨rfl, hb⟩
  · have e1 : ((c.toNat : Int) == 61) = decide (c.toNat = 61) := by
      by_cases e : c.toNat = 61
      · rw [e]; rfl
      · rw [decide_eq_false e, beq_eq_false_iff_ne]; omega
    have e2 : ((c.toNat : Int) == 43) = decide (c.toNat = 43) := by
      by_cases e : c.toNat = 43
      · rw [e]; rfl
      · rw [decide_eq_false e, beq_eq_false_iff_ne]; omega
    have e3 : ((c.toNat : Int) == 47) = decide (c.toNat = 47) := by
      by_cases e : c.toNat = 47
      · rw [e]; rfl
      · rw [decide_eq_false e, beq_eq_false_iff_ne]; omega
    by_cases a1 : c.toNat = 61
    · rw [decide_eq_true a1] at e1
      clear e2 e3 h1 a1
      go_enter Try.func8, Try.ntmps8
      go_wp2_with fail
      refine (HF.out _).mono ?_
      rintro e w1 ⟨rfl, hb⟩
      go_wp2_with fail
      go_ret
      exact ⟨rfl, hb⟩
    rw [decide_eq_false a1] at e1
    by_cases a2 : c.toNat = 43
    · rw [decide_eq_true a2] at e2
      clear e3 h1 a1 a2
      go_enter Try.func8, Try.ntmps8
      go_wp2_with fail
      refine (HF.out _).mono ?_
      rintro e w1 ⟨rfl, hb⟩
      go_wp2_with fail
      go_ret
      exact ⟨rfl, hb⟩
    rw [decide_eq_false a2] at e2
    by_cases a3 : c.toNat = 47
    · rw [decide_eq_true a3] at e3
      clear h1 a1 a2 a3
      go_enter Try.func8, Try.ntmps8
      go_wp2_with fail
      refine (HF.out _).mono ?_
      rintro e w1 ⟨rfl, hb⟩
      go_wp2_with fail
      go_ret
      exact ⟨rfl, hb⟩
    rw [decide_eq_false a3] at e3
    have h2 : (48 ≤ c.toNat ∧ c.toNat ≤ 57) ∨ (97 ≤ c.toNat ∧ c.toNat ≤ 122) ∨ (65 ≤ c.toNat ∧ c.toNat ≤ 90) := by omega
    clear h1 a1 a2 a3
    rcases h2 with ⟨b1, b2⟩ | ⟨b1, b2⟩ | ⟨b1, b2⟩
    all_goals
      go_enter Try.func8, Try.ntmps8
      go_wp2_with fail
      refine (HF.out _).mono ?_
      rintro e w1 ⟨rfl, hb⟩
      go_wp2_with fail
      go_ret
      exact ⟨rfl, hb⟩

end Go.Proofs.Ytdjolkkifcjpdaa
