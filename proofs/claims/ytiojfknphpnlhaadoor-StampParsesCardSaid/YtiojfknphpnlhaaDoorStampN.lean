/- WALKS of the reference's Digit, number, named (stamp). No statement is proved here. -/
import Derived.Test.YtiojfknphpnlhaaDoorStampR
import Derived.Test.YtiojfknphpnlhaaDoorStampM
namespace Go.Proofs.YtiojfknphpnlhaaDoor
set_option maxRecDepth 100000
open Go.RowKit
set_option linter.unusedVariables false
set_option linter.unusedSimpArgs false

def dgB (c : UInt8) : Bool := decide (48 ≤ c.toNat) && decide (c.toNat ≤ 57)
theorem refDigit_any (c : UInt8) (w : World) :
    Calls Tryd.prog 48 #[.int .u8 c.toNat] w fun e w' => e = .returned (.bool (dgB c)) ∧ w = w' := by
  have hc := byte_lt c
  by_cases h1 : 48 ≤ c.toNat
  · have t1 : decide ((48 : Int) ≤ (c.toNat : Int)) = true := decide_eq_true (by omega)
    by_cases h2 : c.toNat ≤ 57
    · have t2 : decide ((c.toNat : Int) ≤ 57) = true := decide_eq_true (by omega)
      have HV : Hid (dgB c = true) := hide (by unfold dgB; rw [decide_eq_true h1, decide_eq_true h2]; rfl)
      go_enter Tryd.func48, Tryd.ntmps48
      go_wp2
      go_ret
      exact ⟨ret_bool HV.out.symm, rfl⟩
    · have t2 : decide ((c.toNat : Int) ≤ 57) = false := decide_eq_false (by omega)
      have HV : Hid (dgB c = false) := hide (by unfold dgB; rw [decide_eq_true h1, decide_eq_false h2]; rfl)
      go_enter Tryd.func48, Tryd.ntmps48
      go_wp2
      go_ret
      exact ⟨ret_bool HV.out.symm, rfl⟩
  · have t1 : decide ((48 : Int) ≤ (c.toNat : Int)) = false := decide_eq_false (by omega)
    have HV : Hid (dgB c = false) := hide (by unfold dgB; rw [decide_eq_false h1]; rfl)
    go_enter Tryd.func48, Tryd.ntmps48
    go_wp2
    go_ret
    exact ⟨ret_bool HV.out.symm, rfl⟩
/-- what the reference's number answers -/
def numR (l : List UInt8) (a b : Nat) : Int := if decide (a ≤ l.length) && (decide (l.length ≤ b) && digB l) then valL l else -1
theorem digB_no {l : List UInt8} {k : Nat} (h : k < l.length) (hn : dgB (l[k]) = false) : digB l = false := by
  cases hd : digB l with
  | false => rfl
  | true =>
    have := List.all_eq_true.1 hd l[k] (List.getElem_mem h)
    rw [show (decide (48 ≤ l[k].toNat) && decide (l[k].toNat ≤ 57)) = dgB l[k] from rfl, hn] at this
    cases this
set_option maxHeartbeats 400000 in
theorem refNumber_any (s : ByteArray) (a b : Nat) (w : World) (hs : s.size ≤ maxLen) (hb : b ≤ 4) (hab : a ≤ b) :
    Calls Tryd.prog 24 #[.string s, .int .i64 a, .int .i64 b] w fun e w' => e = .returned (.int .i64 (numR s.data.toList a b)) ∧ w = w' := by
  unfold maxLen at hs
  have hl := toList_length s
  by_cases h1 : s.size < a
  · have t1 : decide (s.size < a) = true := decide_eq_true (by omega)
    have HV : Hid (numR s.data.toList a b = -1) := hide (by unfold numR; rw [hl, show decide (a ≤ s.size) = false from decide_eq_false (by omega)]; rfl)
    clear hl h1
    go_enter Tryd.func24, Tryd.ntmps24
    go_wp2_with fail
    go_ret
    exact ⟨ret_int HV.out.symm, rfl⟩
  have t1 : decide (s.size < a) = false := decide_eq_false (by omega)
  by_cases h2 : b < s.size
  · have t2 : decide (b < s.size) = true := decide_eq_true (by omega)
    have HV : Hid (numR s.data.toList a b = -1) := hide (by unfold numR; rw [hl, show decide (s.size ≤ b) = false from decide_eq_false (by omega)]; simp)
    clear hl h1 h2
    go_enter Tryd.func24, Tryd.ntmps24
    go_wp2_with fail
    go_ret
    exact ⟨ret_int HV.out.symm, rfl⟩
  have t2 : decide (b < s.size) = false := decide_eq_false (by omega)
  have h4 : s.size ≤ 4 := by omega
  have HN : Hid (numR s.data.toList a b = if digB s.data.toList = true then valL s.data.toList else -1) := hide (by
    unfold numR; rw [hl, show decide (a ≤ s.size) = true from decide_eq_true (by omega), show decide (s.size ≤ b) = true from decide_eq_true (by omega), Bool.true_and, Bool.true_and])
  clear h1 h2
  go_enter Tryd.func24, Tryd.ntmps24
  go_wp2_with fail
  go_loop [7, 8] (fun n i => ∃ k : Nat, k ≤ s.size ∧ i = .int .i64 k ∧ n = .int .i64 (valL (s.data.toList.take k)) ∧ Hid (digB (s.data.toList.take k) = true)) (fun _ i => s.size - (intOf i).toNat)
  case atStart => exact ⟨0, Nat.zero_le _, rfl, rfl, hide rfl⟩
  case round =>
    obtain ⟨k, hk, rfl, rfl, HD⟩ := hrel
    by_cases hlt : k < s.size
    · have hv := valL_bd4 (s.data.toList.take k) (by simp; omega) HD.out
      have hdg := refDigit_any s[k]
      cases hc : dgB s[k]
      · have HR : Hid (numR s.data.toList a b = -1) := hide (by
          rw [HN.out, digB_no (k := k) (by rw [hl]; exact hlt) hc]; rfl)
        have HC := hide hc
        have HDG := hide hdg
        clear hc hdg hl
        go_wp2_with fail
        refine (HDG.out _).mono ?_
        rintro e w1 ⟨rfl, rfl⟩
        rw [HC.out]
        go_wp2_with fail
        go_ret
        exact ⟨ret_int HR.out.symm, rfl⟩
      · have hc2 := hc
        unfold dgB at hc2
        rw [Bool.and_eq_true, decide_eq_true_eq, decide_eq_true_eq] at hc2
        have c1 := hc2.1
        have c2 := hc2.2
        have HS : Hid (valL (s.data.toList.take (k + 1)) = valL (s.data.toList.take k) * 10 + ((s[k].toNat : Int) - 48)) := hide (by rw [take_snoc s k hlt, valL_snoc])
        have HD2 : Hid (digB (s.data.toList.take (k + 1)) = true) := hide (by
          rw [take_snoc s k hlt, digB_snoc, HD.out]; exact hc)
        have HC := hide hc
        have HDG := hide hdg
        clear hc hc2 hdg hl
        go_wp2_with fail
        refine (HDG.out _).mono ?_
        rintro e w1 ⟨rfl, rfl⟩
        rw [HC.out]
        go_wp2_with fail
        go_round
        case rel => exact ⟨k + 1, by omega, by go_num, by rw [HS.out]; go_num, HD2⟩
        case measure => simp [intOf]; omega
    · have e : s.data.toList.take k = s.data.toList := List.take_of_length_le (by omega)
      rw [e] at HD
      have HR : Hid (numR s.data.toList a b = valL s.data.toList) := hide (by rw [HN.out, HD.out]; rfl)
      rw [e]
      clear e hl
      go_wp2_with fail
      go_ret
      exact ⟨ret_int HR.out.symm, rfl⟩
set_option maxHeartbeats 400000 in
theorem refNamed_any (l s : ByteArray) (L : List (List UInt8)) (w : World) (hz : l.size = 4 * L.length) (hz2 : L.length ≤ 100) (hL : ∀ k, k < L.length → l.extract (4 * k) (4 * k + 3) = str (L.getD k [])) :
    Calls Tryd.prog 23 #[.string l, .string s] w fun e w' => e = .returned (.int .i64 (findV s.data.toList L 0 - 1)) ∧ w = w' := by
  obtain ⟨N, hN⟩ : ∃ N, N = l.size := ⟨_, rfl⟩
  have hsz : l.size = N := hN.symm
  have hNz : N = 4 * L.length := by omega
  have HL := hide hL
  clear hz hL hN
  go_enter Tryd.func23, Tryd.ntmps23
  go_wp2_with fail
  go_loop [5] (fun i => ∃ k : Nat, k ≤ L.length ∧ i = .int .i64 (4 * (k : Int)) ∧ Hid (findV s.data.toList (L.drop k) k = findV s.data.toList L 0)) (fun i => 4 * L.length - (intOf i).toNat)
  case atStart => exact ⟨0, Nat.zero_le _, rfl, hide rfl⟩
  case round =>
    obtain ⟨k, hk, rfl, HF⟩ := hrel
    by_cases hlt : k < L.length
    · have hst := findV_step s.data.toList L k hlt
      obtain ⟨A, hA⟩ : ∃ A, A = l.extract (4 * k) (4 * k + 3) := ⟨_, rfl⟩
      have hA2 : l.extract (4 * k) (4 * k + 3) = A := hA.symm
      have hbe := str_beq s (hA.trans (HL.out k hlt))
      rw [HF.out] at hst
      have b3 : (4 * (k : Int)).toNat = 4 * k := by omega
      have b4 : (4 * (k : Int) + 3).toNat = 4 * k + 3 := by omega
      have b5 : 4 * (k : Int) + 4 ≤ N := by omega
      clear hA
      by_cases he : L.getD k [] = s.data.toList
      · rw [if_pos he] at hst
        have HR : Hid ((k : Int) = findV s.data.toList L 0 - 1) := hide (by rw [hst]; omega)
        rw [decide_eq_true he] at hbe
        clear hst he
        go_wp2_with fail
        go_ret
        exact ⟨ret_int (by rw [← HR.out]; try omega), rfl⟩
      · rw [if_neg he] at hst
        have HR := hide hst.symm
        rw [decide_eq_false he] at hbe
        clear hst he
        go_wp2_with fail
        go_round
        case rel => exact ⟨k + 1, by omega, by go_num, HR⟩
        case measure => simp [intOf]; omega
    · have HR : Hid (findV s.data.toList L 0 - 1 = -1) := hide (by rw [← HF.out, findV_end s.data.toList L k (by omega)]; rfl)
      have b5 : N < 4 * (k : Int) + 4 := by omega
      go_wp2_with fail
      go_ret
      exact ⟨ret_int HR.out.symm, rfl⟩
end Go.Proofs.YtiojfknphpnlhaaDoor
