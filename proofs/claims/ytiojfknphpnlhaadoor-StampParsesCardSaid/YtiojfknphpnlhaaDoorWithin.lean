/- WALK of ascii.Within. No statement is proved here. -/
import Derived.Test.YtiojfknphpnlhaaDoorKit
namespace Go.Proofs.YtiojfknphpnlhaaDoor
open Go.RowKit
set_option linter.unusedVariables false
set_option linter.unusedSimpArgs false

/-- is each byte one from lo to hi? -/
def withinB (lo hi : Int) (l : List UInt8) : Bool := l.all fun c => decide (lo ≤ (c.toNat : Int)) && decide ((c.toNat : Int) ≤ hi)
theorem within_yes {lo hi : Int} {c : UInt8} {r : List UInt8} (h : lo ≤ (c.toNat : Int)) (h' : (c.toNat : Int) ≤ hi) : withinB lo hi (c :: r) = withinB lo hi r := by simp [withinB, h, h']
theorem within_no {lo hi : Int} {c : UInt8} {r : List UInt8} (h : (c.toNat : Int) < lo ∨ hi < (c.toNat : Int)) : withinB lo hi (c :: r) = false := by
  simp only [withinB, List.all_cons]
  rcases h with h | h
  · rw [decide_eq_false (Int.not_le.2 h)]; rfl
  · rw [decide_eq_false (p := (c.toNat : Int) ≤ hi) (Int.not_le.2 h), Bool.and_false, Bool.false_and]

set_option maxHeartbeats 1000000 in
theorem within_any (s : ByteArray) (lo hi : Int) (w : World) (hs : s.size ≤ maxLen) :
    Calls Tryd.prog 56 #[.string s, .int .u8 lo, .int .u8 hi] w fun e w' => e = .returned (.bool (withinB lo hi s.data.toList)) ∧ w = w' := by
  unfold maxLen at hs
  go_enter Tryd.func56, Tryd.ntmps56
  go_wp2
  go_loop [10] (fun i => ∃ k : Nat, k ≤ s.size ∧ i = .int .i64 k ∧ withinB lo hi (s.data.toList.drop k) = withinB lo hi s.data.toList) (fun i => s.size - (intOf i).toNat)
  case atStart => exact ⟨0, Nat.zero_le _, rfl, by rw [List.drop_zero]⟩
  case round =>
    obtain ⟨k, hk, rfl, hd⟩ := hrel
    by_cases hlt : k < s.size
    · have hc := drop_cons s k hlt
      rw [hc] at hd
      by_cases h1 : (s[k].toNat : Int) < lo
      · have HF : Hid (withinB lo hi s.data.toList = false) := hide (by rw [← hd]; exact within_no (.inl h1))
        have t1 : decide ((s[k].toNat : Int) < lo) = true := decide_eq_true h1
        clear hd hc h1
        go_wp2
        go_ret
        exact ⟨ret_bool HF.out.symm, rfl⟩
      · have t1 : decide ((s[k].toNat : Int) < lo) = false := decide_eq_false h1
        by_cases h2 : hi < (s[k].toNat : Int)
        · have HF : Hid (withinB lo hi s.data.toList = false) := hide (by rw [← hd]; exact within_no (.inr h2))
          have t2 : decide (hi < (s[k].toNat : Int)) = true := decide_eq_true h2
          clear hd hc h1 h2
          go_wp2
          go_ret
          exact ⟨ret_bool HF.out.symm, rfl⟩
        · have HF := hide ((within_yes (r := s.data.toList.drop (k + 1)) (Int.not_lt.1 h1) (Int.not_lt.1 h2)).symm.trans hd)
          have t2 : decide (hi < (s[k].toNat : Int)) = false := decide_eq_false h2
          clear hd hc h1 h2
          go_wp2
          go_round
          case rel => exact ⟨k + 1, by omega, by go_num, HF.out⟩
          case measure => simp [intOf]; omega
    · have HF : Hid (withinB lo hi s.data.toList = true) := hide (by rw [← hd, drop_nil s k (by omega)]; rfl)
      clear hd
      go_wp2
      go_ret
      exact ⟨ret_bool HF.out.symm, rfl⟩
end Go.Proofs.YtiojfknphpnlhaaDoor
