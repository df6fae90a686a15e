/- WALKS of muslinlaw02's live and short. No statement is proved here. -/
import Derived.Test.YtlllboleinnfiaaQpWalk3
import Derived.Test.YtlllboleinnfiaaQpWalk4
namespace Go.Proofs.Ytlllboleinnfiaa
open Go.RowKit
set_option linter.unusedVariables false
set_option linter.unusedSimpArgs false

theorem live_dec1 : dec [97, 61, 51, 68, 98, 32, 61, 13, 10, 99, 61, 122, 122, 32, 9, 10, 32, 100] = [97, 61, 98, 32, 99, 61, 122, 122, 10, 32, 100] := by decide +kernel
theorem live_dec2 : dec [61] = [61] := by decide +kernel
theorem live_enc : enc [97, 61, 98, 32] = [97, 61, 51, 68, 98, 61, 50, 48] := by decide +kernel

set_option maxHeartbeats 1000000 in
theorem live2_any (w : World) : Calls Try.prog 10 #[] w fun e w' => e = .returned (.bool true) ∧ Below w.heap.size w w' := by
  have h1 : str (dec (⟨#[97, 61, 51, 68, 98, 32, 61, 13, 10, 99, 61, 122, 122, 32, 9, 10, 32, 100]⟩ : ByteArray).data.toList) = ⟨#[97, 61, 98, 32, 99, 61, 122, 122, 10, 32, 100]⟩ := congrArg str live_dec1
  have h2 : str (dec (⟨#[61]⟩ : ByteArray).data.toList) = ⟨#[61]⟩ := congrArg str live_dec2
  have h3 : str (enc (⟨#[97, 61, 98, 32]⟩ : ByteArray).data.toList) = ⟨#[97, 61, 51, 68, 98, 61, 50, 48]⟩ := congrArg str live_enc
  have H1 := hide h1
  have H2 := hide h2
  have H3 := hide h3
  clear h1 h2 h3
  go_enter Try.func10, Try.ntmps10
  go_wp2_with fail
  refine (decode_any _ _ (by decide)).mono ?_
  rintro e w1 ⟨rfl, hb1⟩
  rw [H1.out]
  go_wp2_with fail
  refine (encode_any _ _ (by decide)).mono ?_
  rintro e w2 ⟨rfl, hb2⟩
  rw [H3.out]
  go_wp2_with fail
  refine (decode_any _ _ (by decide)).mono ?_
  rintro e w3 ⟨rfl, hb3⟩
  rw [H2.out]
  go_wp2_with fail
  go_ret
  exact ⟨rfl, hb1.trans ((hb2.mono hb1.size).trans (hb3.mono (Nat.le_trans hb1.size hb2.size)))⟩

theorem short2_any (s : ByteArray) (w : World) (hs : s.size ≤ maxLen) : Calls Try.prog 9 #[.string s] w fun e w' => e = .returned (.bool (decide (s.size ≤ 3000))) ∧ w = w' := by
  unfold maxLen at hs
  by_cases h : s.size ≤ 3000
  · have e : decide (s.size ≤ 3000) = true := decide_eq_true h
    rw [e]
    clear e
    go_enter Try.func9, Try.ntmps9
    go_wp2
    go_ret
    exact ⟨ret_bool (decide_eq_true (by omega)), rfl⟩
  · have e : decide (s.size ≤ 3000) = false := decide_eq_false h
    rw [e]
    clear e
    go_enter Try.func9, Try.ntmps9
    go_wp2
    go_ret
    exact ⟨ret_bool (decide_eq_false (by omega)), rfl⟩
end Go.Proofs.Ytlllboleinnfiaa
