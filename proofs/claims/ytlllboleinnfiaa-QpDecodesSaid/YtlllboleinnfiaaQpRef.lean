/- WALKS of the reference's small functions for package qp: blanks, eol, Hex, Digits. No statement is proved here. -/
import Derived.Test.YtlllboleinnfiaaQpWalk
import Derived.Test.YtlllboleinnfiaaRef02
namespace Go.Proofs.Ytlllboleinnfiaa
open Go.RowKit
set_option linter.unusedVariables false
set_option linter.unusedSimpArgs false

set_option maxHeartbeats 400000 in
theorem blanks_any (s : ByteArray) (k : Nat) (w : World) (hs : s.size ≤ maxLen) (hk : k ≤ s.size) :
    Calls Try.prog 18 #[.string s, .int .i64 k] w fun e w' => e = .returned (.int .i64 (k + whiteN (s.data.toList.drop k) : Nat)) ∧ w = w' := by
  unfold maxLen at hs
  go_enter Try.func18, Try.ntmps18
  go_wp2
  go_loop [1] (fun n => ∃ j : Nat, j ≤ s.size ∧ n = .int .i64 j ∧ k + whiteN (s.data.toList.drop k) = j + whiteN (s.data.toList.drop j)) (fun n => s.size - (intOf n).toNat)
  case atStart => exact ⟨k, hk, rfl, rfl⟩
  case round =>
    obtain ⟨j, hj, rfl, hw⟩ := hrel
    have HW := hide hw
    clear hw
    by_cases hlt : j < s.size
    · have HD := hide (drop_cons s j hlt)
      by_cases h : isW s[j] = true
      · have HN := hide (whiteN_yes (l := s.data.toList.drop (j + 1)) h)
        have h1 : ((s[j].toNat : Int) == 32) = true ∨ ((s[j].toNat : Int) == 32) = false ∧ ((s[j].toNat : Int) == 9) = true := by
          simp only [isW, Bool.or_eq_true, beq_iff_eq] at h
          rcases h with h | h <;> simp [h]
        clear h
        rcases h1 with h1 | ⟨h1, h2⟩
        all_goals
          go_wp2
          go_round
          case rel => exact ⟨j + 1, by omega, by go_num, by rw [HW.out, HD.out, HN.out]; omega⟩
          case measure => simp [intOf]; omega
      · have HN := hide (whiteN_no (l := s.data.toList.drop (j + 1)) (by simpa using h))
        have h1 : ((s[j].toNat : Int) == 32) = false ∧ ((s[j].toNat : Int) == 9) = false := by
          simp only [isW, Bool.or_eq_true, beq_iff_eq, not_or] at h
          exact ⟨tF 32 h.1 (by omega), tF 9 h.2 (by omega)⟩
        clear h
        obtain ⟨h1, h2⟩ := h1
        go_wp2
        go_ret
        exact ⟨ret_int (by have h := HW.out; rw [HD.out, HN.out] at h; omega), rfl⟩
    · go_wp2
      go_ret
      exact ⟨ret_int (by have h := HW.out; rw [drop_nil s j (by omega), whiteN_nil] at h; omega), rfl⟩

theorem eolN_at (s : ByteArray) (k : Nat) : eolN (s.data.toList.drop k) = if h : k < s.size then (if s[k] = 10 then 1 else if h1 : k + 1 < s.size then (if s[k] = 13 ∧ s[k + 1] = 10 then 2 else 0) else 0) else 0 := by
  by_cases h : k < s.size
  · have e := drop_cons s k h
    rw [e, dif_pos h]
    simp only [eolN]
    by_cases h1 : k + 1 < s.size
    · rw [drop_cons s (k + 1) h1, dif_pos h1]; simp
    · rw [drop_nil s (k + 1) (by omega), dif_neg h1]; simp
  · have e := drop_nil s k (by omega)
    rw [e, dif_neg h]; rfl

set_option maxHeartbeats 1000000 in
theorem eol_any (s : ByteArray) (k : Nat) (w : World) (hs : s.size ≤ 70368744177664) (hk : k ≤ s.size) :
    Calls Try.prog 19 #[.string s, .int .i64 k] w fun e w' => e = .returned (.int .i64 (eolN (s.data.toList.drop k))) ∧ w = w' := by
  rw [eolN_at]
  by_cases h : k < s.size
  · rw [dif_pos h]
    by_cases h10 : s[k] = 10
    · rw [if_pos h10]
      have t0 : ((s[k].toNat : Int) == 10) = true := tT 10 h10 (by omega)
      clear h10
      go_enter Try.func19, Try.ntmps19
      go_wp2
      go_ret
      exact ⟨rfl, rfl⟩
    · rw [if_neg h10]
      have t0 : ((s[k].toNat : Int) == 10) = false := tF 10 h10 (by omega)
      clear h10
      by_cases h1 : k + 1 < s.size
      · rw [dif_pos h1]
        have h1' : (k : Int) + 1 < s.size := by omega
        by_cases h13 : s[k] = 13
        · have t1 : ((s[k].toNat : Int) == 13) = true := tT 13 h13 (by omega)
          by_cases hb : s[k + 1] = 10
          · rw [if_pos ⟨h13, hb⟩]
            have t2 : ((s[k + 1].toNat : Int) == 10) = true := tT 10 hb (by omega)
            clear h13 hb
            go_enter Try.func19, Try.ntmps19
            go_wp2
            go_ret
            exact ⟨rfl, rfl⟩
          · rw [if_neg (by simp [hb])]
            have t2 : ((s[k + 1].toNat : Int) == 10) = false := tF 10 hb (by omega)
            clear h13 hb
            go_enter Try.func19, Try.ntmps19
            go_wp2
            go_ret
            exact ⟨rfl, rfl⟩
        · rw [if_neg (by simp [h13])]
          have t1 : ((s[k].toNat : Int) == 13) = false := tF 13 h13 (by omega)
          clear h13
          go_enter Try.func19, Try.ntmps19
          go_wp2
          go_ret
          exact ⟨rfl, rfl⟩
      · rw [dif_neg h1]
        have h1' : ¬ (k : Int) + 1 < s.size := by omega
        go_enter Try.func19, Try.ntmps19
        go_wp2
        go_ret
        exact ⟨rfl, rfl⟩
  · rw [dif_neg h]
    go_enter Try.func19, Try.ntmps19
    go_wp2
    go_ret
    exact ⟨rfl, rfl⟩

end Go.Proofs.Ytlllboleinnfiaa
