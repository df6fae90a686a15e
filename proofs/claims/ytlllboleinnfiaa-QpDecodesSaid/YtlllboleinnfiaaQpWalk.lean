/- WALKS of the small functions of package qp. No statement is proved here. -/
import Derived.Test.YtlllboleinnfiaaQpPlain
import Derived.Test.YtlllboleinnfiaaHexW
namespace Go.Proofs.Ytlllboleinnfiaa
open Go.RowKit
set_option linter.unusedVariables false
set_option linter.unusedSimpArgs false

set_option maxHeartbeats 400000 in
theorem white_any (s : ByteArray) (w : World) (hs : s.size ≤ maxLen) :
    Calls Try.prog 16 #[.string s] w fun e w' => e = .returned (.int .i64 (whiteN s.data.toList)) ∧ w = w' := by
  unfold maxLen at hs
  go_enter Try.func16, Try.ntmps16
  go_wp2
  go_loop [3] (fun n => ∃ k : Nat, k ≤ s.size ∧ n = .int .i64 k ∧ whiteN s.data.toList = k + whiteN (s.data.toList.drop k)) (fun n => s.size - (intOf n).toNat)
  case atStart => exact ⟨0, Nat.zero_le _, rfl, by simp⟩
  case round =>
    obtain ⟨k, hk, rfl, hw⟩ := hrel
    have HW := hide hw
    clear hw
    by_cases hlt : k < s.size
    · have HD := hide (drop_cons s k hlt)
      by_cases h : isW s[k] = true
      · have HN := hide (whiteN_yes (l := s.data.toList.drop (k + 1)) h)
        have h1 : ((s[k].toNat : Int) == 32) = true ∨ ((s[k].toNat : Int) == 32) = false ∧ ((s[k].toNat : Int) == 9) = true := by
          simp only [isW, Bool.or_eq_true, beq_iff_eq] at h
          rcases h with h | h <;> simp [h]
        clear h
        rcases h1 with h1 | ⟨h1, h2⟩
        all_goals
          go_wp2
          go_round
          case rel => exact ⟨k + 1, by omega, by go_num, by rw [HW.out, HD.out, HN.out]; omega⟩
          case measure => simp [intOf]; omega
      · have HN := hide (whiteN_no (l := s.data.toList.drop (k + 1)) (by simpa using h))
        have h1 : ((s[k].toNat : Int) == 32) = false ∧ ((s[k].toNat : Int) == 9) = false := by
          simp only [isW, Bool.or_eq_true, beq_iff_eq, not_or] at h
          constructor
          · rw [beq_eq_false_iff_ne]; intro e; exact h.1 (u8_eq (n := 32) (by omega) e)
          · rw [beq_eq_false_iff_ne]; intro e; exact h.2 (u8_eq (n := 9) (by omega) e)
        clear h
        obtain ⟨h1, h2⟩ := h1
        go_wp2
        go_ret
        exact ⟨ret_int (by rw [HW.out, HD.out, HN.out]; omega), rfl⟩
    · go_wp2
      go_ret
      exact ⟨ret_int (by rw [HW.out, drop_nil s k (by omega), whiteN_nil]; omega), rfl⟩

theorem eolN_get (s : ByteArray) : eolN s.data.toList = if h : 0 < s.size then (if s[0] = 10 then 1 else if h1 : 1 < s.size then (if s[0] = 13 ∧ s[1] = 10 then 2 else 0) else 0) else 0 := by
  by_cases h : 0 < s.size
  · have e := drop_cons s 0 h
    rw [List.drop_zero] at e
    rw [e, dif_pos h]
    simp only [eolN]
    by_cases h1 : 1 < s.size
    · rw [drop_cons s 1 h1, dif_pos h1]; simp
    · rw [drop_nil s 1 (by omega), dif_neg h1]; simp
  · have e := drop_nil s 0 (by omega)
    rw [List.drop_zero] at e
    rw [e, dif_neg h]; rfl

set_option maxHeartbeats 400000 in
theorem lineEnd_any (s : ByteArray) (w : World) (hs : s.size ≤ maxLen) :
    Calls Try.prog 17 #[.string s] w fun e w' => e = .returned (.int .i64 (eolN s.data.toList)) ∧ w = w' := by
  unfold maxLen at hs
  rw [eolN_get]
  by_cases h : 0 < s.size
  · rw [dif_pos h]
    by_cases h10 : s[0] = 10
    · rw [if_pos h10]
      have t0 : ((s[0].toNat : Int) == 10) = true := tT 10 h10 (by omega)
      clear h10
      go_enter Try.func17, Try.ntmps17
      go_wp2
      go_ret
      exact ⟨rfl, rfl⟩
    · rw [if_neg h10]
      have t0 : ((s[0].toNat : Int) == 10) = false := tF 10 h10 (by omega)
      clear h10
      by_cases h1 : 1 < s.size
      · rw [dif_pos h1]
        by_cases h13 : s[0] = 13
        · have t1 : ((s[0].toNat : Int) == 13) = true := tT 13 h13 (by omega)
          by_cases hb : s[1] = 10
          · rw [if_pos ⟨h13, hb⟩]
            have t2 : ((s[1].toNat : Int) == 10) = true := tT 10 hb (by omega)
            clear h13 hb
            go_enter Try.func17, Try.ntmps17
            go_wp2
            go_ret
            exact ⟨rfl, rfl⟩
          · rw [if_neg (by simp [hb])]
            have t2 : ((s[1].toNat : Int) == 10) = false := tF 10 hb (by omega)
            clear h13 hb
            go_enter Try.func17, Try.ntmps17
            go_wp2
            go_ret
            exact ⟨rfl, rfl⟩
        · rw [if_neg (by simp [h13])]
          have t1 : ((s[0].toNat : Int) == 13) = false := tF 13 h13 (by omega)
          clear h13
          go_enter Try.func17, Try.ntmps17
          go_wp2
          go_ret
          exact ⟨rfl, rfl⟩
      · rw [dif_neg h1]
        go_enter Try.func17, Try.ntmps17
        go_wp2
        go_ret
        exact ⟨rfl, rfl⟩
  · rw [dif_neg h]
    go_enter Try.func17, Try.ntmps17
    go_wp2
    go_ret
    exact ⟨rfl, rfl⟩

/-- may a byte stand for itself? -/
theorem plain_any (c : UInt8) (w : World) :
    Calls Try.prog 25 #[.int .u8 c.toNat] w fun e w' => e = .returned (.bool (plainB c)) ∧ w = w' := by
  have hc := byte_lt c
  have e : plainB c = (decide (32 ≤ c.toNat) && decide (c.toNat ≤ 126) && !(c.toNat == 61)) := by
    exact u8_all (p := fun c => plainB c = (decide (32 ≤ c.toNat) && decide (c.toNat ≤ 126) && !(c.toNat == 61))) (by decide +kernel) c
  by_cases h1 : 32 ≤ (c.toNat : Int)
  · by_cases h2 : (c.toNat : Int) ≤ 126
    · by_cases h3 : c = 61
      · have t3 : ((c.toNat : Int) == 61) = true := tT 61 h3 (by omega)
        have t4 : ((c.toNat : Int) != 61) = false := by simp [bne, t3]
        have E : plainB c = false := by rw [h3]; decide
        rw [E]
        clear e h3
        go_enter Try.func25, Try.ntmps25
        go_wp2
        go_ret
        exact ⟨rfl, rfl⟩
      · have t3 : ((c.toNat : Int) == 61) = false := tF 61 h3 (by omega)
        have t4 : ((c.toNat : Int) != 61) = true := by simp [bne, t3]
        have E : plainB c = true := by
          rw [e]; rw [beq_eq_false_iff_ne] at t3; simp; omega
        rw [E]
        clear e h3
        go_enter Try.func25, Try.ntmps25
        go_wp2
        go_ret
        exact ⟨rfl, rfl⟩
    · have E : plainB c = false := by rw [e]; simp; omega
      rw [E]
      clear e
      go_enter Try.func25, Try.ntmps25
      go_wp2
      go_ret
      exact ⟨rfl, rfl⟩
  · have E : plainB c = false := by rw [e]; simp; omega
    rw [E]
    clear e
    go_enter Try.func25, Try.ntmps25
    go_wp2
    go_ret
    exact ⟨rfl, rfl⟩

end Go.Proofs.Ytlllboleinnfiaa
