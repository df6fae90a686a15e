/- WALKS of the laws' plain and clean (layer 13). Written by wip/tools/htokclean.py. No statement is proved here. Own work of the verifier. -/
import Derived.Test.YtmojckphfbcibaaGreatDoorHtokO
import Derived.Test.YtmojckphfbcibaaGreatDoorBldK
import Derived.Test.YtmojckphfbcibaaGreatDoorRawW
import Derived.Test.YtmojckphfbcibaaGreatDoorBaseM
import Derived.BigQuiet
import Derived.Deep.QuietTactic
namespace Go.Proofs.YtmojckphfbcibaaGreatDoor
open Go.RowKit
set_option linter.unusedVariables false
set_option linter.unusedSimpArgs false
set_option maxRecDepth 100000
theorem small_case (c : UInt8) : (97 ≤ c.toNat ∧ c.toNat ≤ 122 ∧ smallB c = true) ∨ (c.toNat < 97 ∧ smallB c = false) ∨ (97 ≤ c.toNat ∧ 122 < c.toNat ∧ smallB c = false) :=
  u8_all (p := fun c => (97 ≤ c.toNat ∧ c.toNat ≤ 122 ∧ smallB c = true) ∨ (c.toNat < 97 ∧ smallB c = false) ∨ (97 ≤ c.toNat ∧ 122 < c.toNat ∧ smallB c = false)) (by decide +kernel) c
def plainAt (k : Nat) (c : UInt8) : Bool := smallB c || (decide (k ≠ 0) && digitB c)
theorem plain_iff (l : List UInt8) : plainB l = true ↔ l ≠ [] ∧ ∀ (j : Nat) (c : UInt8), l[j]? = some c → plainAt j c = true := by
  cases l with
  | nil => simp [plainB]
  | cons d r =>
    unfold plainB plainAt
    rw [Bool.and_eq_true, List.all_eq_true]
    constructor
    · rintro ⟨h1, h2⟩
      refine ⟨by simp, fun j c hj => ?_⟩
      cases j with
      | zero => simp at hj; subst hj; rw [h1]; rfl
      | succ j =>
        have := h2 c (List.mem_of_getElem? (by simpa using hj))
        simpa using this
    · rintro ⟨_, h⟩
      refine ⟨by simpa using h 0 d rfl, fun c hc => ?_⟩
      obtain ⟨j, hj⟩ := List.getElem?_of_mem hc
      simpa using h (j + 1) c (by simpa using hj)
theorem plain_bad {l : List UInt8} {k : Nat} {c : UInt8} (h : l[k]? = some c) (hb : plainAt k c = false) : plainB l = false := by
  cases hp : plainB l with
  | false => rfl
  | true => rw [((plain_iff l).1 hp).2 k c h] at hb; cases hb
set_option maxHeartbeats 4000000 in
theorem plain13_any (s : ByteArray) (w : World) (hs : s.size ≤ maxLen) :
    Calls Tryz.prog 37 #[.string s] w fun e w' => e = .returned (.bool (plainB s.data.toList)) ∧ w = w' := by
  unfold maxLen at hs
  go_enter Tryz.func37, Tryz.ntmps37
  go_wp2_with fail
  go_loop [3] (fun i => ∃ k : Nat, k ≤ s.size ∧ i = .int .i64 k ∧ Hid (∀ (j : Nat) (c : UInt8), j < k → s.data.toList[j]? = some c → plainAt j c = true)) (fun i => s.size - (intOf i).toNat)
  case atStart => exact ⟨0, Nat.zero_le _, rfl, hide fun j c h => by omega⟩
  case round =>
    obtain ⟨k, hk, rfl, HG⟩ := hrel
    by_cases hlt : k < s.size
    · have hget : s.data.toList[k]? = some s[k] := by
        rw [List.getElem?_eq_getElem (by rw [toList_length]; exact hlt)]; rfl
      have HN : plainAt k s[k] = true → Hid (∀ (j : Nat) (c : UInt8), j < k + 1 → s.data.toList[j]? = some c → plainAt j c = true) := fun h => hide fun j c hj hc => by
        by_cases e : j = k
        · subst e
          rw [hget] at hc
          injection hc with hc
          rw [← hc]; exact h
        · exact HG.out j c (by omega) hc
      have HBAD : plainAt k s[k] = false → Hid (plainB s.data.toList = false) := fun h => hide (plain_bad hget h)
      have hca := small_case s[k]
      have hdg := fun w2 => digit03_any s[k] w2
      obtain ⟨c, hc⟩ : ∃ c, s[k] = c := ⟨_, rfl⟩
      rw [hc] at hca hdg HN HBAD
      have hcn : (s[k]'hlt).toNat = c.toNat := by rw [hc]
      have q1 : c.toNat < 97 → decide ((97 : Int) ≤ (c.toNat : Int)) = false := fun h => decide_eq_false (by omega)
      have q2 : 122 < c.toNat → decide ((c.toNat : Int) ≤ 122) = false := fun h => decide_eq_false (by omega)
      rcases hca with ⟨h1, h2, h3⟩ | ⟨h1, h3⟩ | ⟨h1, h2, h3⟩
      · have HNX := HN (by unfold plainAt; rw [h3]; rfl)
        clear HN HBAD hdg hget HG h3
        go_wp2_with fail
        go_round
        case rel => exact ⟨k + 1, by omega, by go_num, HNX⟩
        case measure => simp [intOf]; omega
      all_goals
        first | have q3 := q2 h2 | have q3 := q1 h1
        clear q1 q2
        by_cases hk0 : k = 0
        · subst hk0
          have HD := HBAD (by unfold plainAt; rw [h3]; rfl)
          clear HN HBAD hdg hget HG h3
          go_wp2_with fail
          go_ret
          exact ⟨ret_bool HD.out.symm, rfl⟩
        · have t0 : ((k : Int) == 0) = false := by rw [beq_eq_false_iff_ne]; omega
          cases hd : digitB c with
          | true =>
            have HNX := HN (by unfold plainAt; rw [h3, hd, decide_eq_true hk0]; rfl)
            rw [hd] at hdg
            have HDG := hide hdg
            clear HN HBAD hdg hget HG h3 hd hk0
            go_wp2_with (go_at_call 64; refine (HDG.out _).mono ?_; rintro e w2 ⟨rfl, rfl⟩)
            go_round
            case rel => exact ⟨k + 1, by omega, by go_num, HNX⟩
            case measure => simp [intOf]; omega
          | false =>
            have HD := HBAD (by unfold plainAt; rw [h3, hd, Bool.and_false]; rfl)
            rw [hd] at hdg
            have HDG := hide hdg
            clear HN HBAD hdg hget HG h3 hd hk0
            go_wp2_with (go_at_call 64; refine (HDG.out _).mono ?_; rintro e w2 ⟨rfl, rfl⟩)
            go_ret
            exact ⟨ret_bool HD.out.symm, rfl⟩
    · have hall : ∀ (j : Nat) (c : UInt8), s.data.toList[j]? = some c → plainAt j c = true := fun j c hj => HG.out j c (by
        have := (List.getElem?_eq_some_iff.1 hj).1
        rw [toList_length] at this; omega) hj
      cases hl : s.data.toList with
      | nil =>
        have t0 : s.toList.isEmpty = true := by rw [bytes_list, hl]; rfl
        have t1 : s.toList = [] := by rw [bytes_list, hl]
        have HD : Hid (plainB s.data.toList = false) := hide (by rw [hl]; rfl)
        clear hall hl HG
        go_wp2_with fail
        go_ret
        exact ⟨ret_bool HD.out.symm, rfl⟩
      | cons c r =>
        have t0 : s.toList.isEmpty = false := by rw [bytes_list, hl]; rfl
        have HD : Hid (plainB s.data.toList = true) := hide ((plain_iff _).2 ⟨by rw [hl]; simp, hall⟩)
        clear hall hl HG
        go_wp2_with fail
        go_ret
        exact ⟨ret_bool HD.out.symm, rfl⟩
end Go.Proofs.YtmojckphfbcibaaGreatDoor
