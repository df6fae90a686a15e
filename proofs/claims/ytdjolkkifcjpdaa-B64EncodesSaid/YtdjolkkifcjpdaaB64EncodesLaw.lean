/- WALK of the law B64Encodes. No statement is proved here. -/
import Derived.Test.YtdjolkkifcjpdaaB64Law0
import Derived.Test.YtdjolkkifcjpdaaB64RefW
namespace Go.Proofs.Ytdjolkkifcjpdaa
open Go.RowKit
set_option linter.unusedVariables false
set_option linter.unusedSimpArgs false

set_option maxHeartbeats 1000000 in
theorem law_B64Encodes (s : ByteArray) (hs : s.size ≤ maxLen) (z : Int) (hz : (Lit.int .i64 z).wf = true) (w : World) :
    Calls Try.prog 3 #[.string s, .int .i64 z] w fun e w' => e = .returned (.bool true) ∧ Below w.heap.size w w' := by
  by_cases h3 : s.size ≤ 5000
  · have HD : Hid (decide (s.size ≤ 5000) = true) := decide_eq_true h3
    have hz2 : z ≤ 9223372036854775807 := by
      have h := hz
      have hmax : IntKind.i64.max = 9223372036854775807 := rfl
      simp only [Lit.wf, Bool.and_eq_true, decide_eq_true_eq] at h
      omega
    obtain ⟨n, hn⟩ : ∃ n : Nat, max z 1 = (n : Int) := ⟨(max z 1).toNat, by omega⟩
    have HN := hide hn
    clear hn hz
    go_enter Try.func3, Try.ntmps3
    go_wp2_with fail
    refine (short1_any _ _ hs).mono ?_
    rintro e w1 ⟨rfl, rfl⟩
    rw [HD.out]
    go_wp2_with fail
    refine (encode64_any _ _ (by omega)).mono ?_
    rintro e w1 ⟨rfl, hb1⟩
    go_wp2_with fail
    refine (ref64Encode_any _ _ (by omega)).mono ?_
    rintro e w2 ⟨rfl, hb2⟩
    go_wp2_with fail
    refine (wrap_any s z n _ (by omega) hz2 HN.out).mono ?_
    rintro e w3 ⟨rfl, hb3⟩
    go_wp2_with fail
    refine (ref64Wrap_any s z n _ (by omega) hz2 HN.out).mono ?_
    rintro e w4 ⟨rfl, hb4⟩
    go_wp2_with fail
    refine (live1_any _).mono ?_
    rintro e w5 ⟨rfl, hb5⟩
    go_wp2_with fail
    go_ret
    have k2 := hb1.trans (hb2.mono hb1.size)
    have k3 := k2.trans (hb3.mono k2.size)
    have k4 := k3.trans (hb4.mono k3.size)
    exact ⟨rfl, k4.trans (hb5.mono k4.size)⟩
  · have HD : Hid (decide (s.size ≤ 5000) = false) := decide_eq_false h3
    clear hz
    go_enter Try.func3, Try.ntmps3
    go_wp2_with fail
    refine (short1_any _ _ hs).mono ?_
    rintro e w1 ⟨rfl, rfl⟩
    rw [HD.out]
    go_wp2_with fail
    refine (live1_any _).mono ?_
    rintro e w1 ⟨rfl, hb1⟩
    go_wp2_with fail
    go_ret
    exact ⟨rfl, hb1⟩
end Go.Proofs.Ytdjolkkifcjpdaa
