/- WALKS of the reference of layer 7: plain, named, Write. No statement is proved here. -/
import Derived.Test.YtienjpelmbldpaaGreatDoorRef07E
import Derived.Test.YtienjpelmbldpaaGreatDoorRef07N
import Derived.Test.YtienjpelmbldpaaGreatDoorRef07T
import Derived.Test.YtienjpelmbldpaaGreatDoorPctRefE
import Derived.Deep.Cut
import Derived.Deep.CutRange
import Derived.Deep.RegionHeld3
import Derived.Deep.RegionWith
namespace Go.Proofs.YtienjpelmbldpaaGreatDoor
open Go.RowKit
set_option linter.unusedVariables false
set_option linter.unusedSimpArgs false
set_option maxRecDepth 100000
theorem pln_case (m : Bool) (c : UInt8) : (c.toNat < 32 ∧ plnB m c = false) ∨ (¬ c.toNat < 32 ∧ c = 127 ∧ plnB m c = false) ∨ (¬ c.toNat < 32 ∧ c ≠ 127 ∧ c.toNat ≤ 127 ∧ plnB m c = true) ∨ (¬ c.toNat < 32 ∧ c ≠ 127 ∧ 127 < c.toNat ∧ plnB m c = m) := by
  cases m
  · exact u8_all (p := fun c => (c.toNat < 32 ∧ plnB false c = false) ∨ (¬ c.toNat < 32 ∧ c = 127 ∧ plnB false c = false) ∨ (¬ c.toNat < 32 ∧ c ≠ 127 ∧ c.toNat ≤ 127 ∧ plnB false c = true) ∨ (¬ c.toNat < 32 ∧ c ≠ 127 ∧ 127 < c.toNat ∧ plnB false c = false)) (by decide +kernel) c
  · exact u8_all (p := fun c => (c.toNat < 32 ∧ plnB true c = false) ∨ (¬ c.toNat < 32 ∧ c = 127 ∧ plnB true c = false) ∨ (¬ c.toNat < 32 ∧ c ≠ 127 ∧ c.toNat ≤ 127 ∧ plnB true c = true) ∨ (¬ c.toNat < 32 ∧ c ≠ 127 ∧ 127 < c.toNat ∧ plnB true c = true)) (by decide +kernel) c
theorem pln_step (m : Bool) (s : ByteArray) (k : Nat) (h : k < s.size) : plnL m (s.data.toList.drop k) = (plnB m s[k] && plnL m (s.data.toList.drop (k + 1))) := by rw [drop_cons s k h]; rfl
set_option maxHeartbeats 4000000 in
theorem plain07_any (s : ByteArray) (m : Bool) (w : World) (hs : s.size ≤ 70368744177664) :
    Calls Tryz.prog 36 #[.string s, .bool m] w fun e w' => e = .returned (.bool (plnL m s.data.toList)) ∧ w = w' := by
  have hsm : s.size < 9223372036854775807 := by omega
  go_enter Tryz.func36, Tryz.ntmps36
  go_wp2_with fail
  go_loop [5] (fun i => ∃ k : Nat, k ≤ s.size ∧ i = .int .i64 k ∧ Hid (plnL m (s.data.toList.drop k) = plnL m s.data.toList)) (fun i => s.size - (intOf i).toNat)
  case atStart => exact ⟨0, Nat.zero_le _, rfl, hide rfl⟩
  case round =>
    obtain ⟨k, hk, rfl, HG⟩ := hrel
    by_cases hlt : k < s.size
    · have hst := pln_step m s k hlt
      have hG := HG.out
      rw [hst] at hG
      rcases pln_case m s[k] with ⟨h1, hp⟩ | ⟨h1, h2, hp⟩ | ⟨h1, h2, h3, hp⟩ | ⟨h1, h2, h3, hp⟩
      · have t1 : decide ((s[k].toNat : Int) < 32) = true := decide_eq_true (by omega)
        rw [hp, Bool.false_and] at hG
        have HR := hide hG
        clear hst hG hp h1
        go_wp2_with fail
        go_ret
        exact ⟨ret_bool HR.out, rfl⟩
      · have t1 : decide ((s[k].toNat : Int) < 32) = false := decide_eq_false (by omega)
        have t2 : ((s[k].toNat : Int) == 127) = true := tT 127 h2 (by omega)
        rw [hp, Bool.false_and] at hG
        have HR := hide hG
        clear hst hG hp h1 h2
        go_wp2_with fail
        go_ret
        exact ⟨ret_bool HR.out, rfl⟩
      · have t1 : decide ((s[k].toNat : Int) < 32) = false := decide_eq_false (by omega)
        have t2 : ((s[k].toNat : Int) == 127) = false := tF 127 h2 (by omega)
        have t3 : decide ((127 : Int) < s[k].toNat) = false := decide_eq_false (by omega)
        rw [hp, Bool.true_and] at hG
        have HR := hide hG
        clear hst hG hp h1 h2 h3
        go_wp2_with fail
        go_round
        case rel => exact ⟨k + 1, by omega, by go_num, HR⟩
        case measure => simp [intOf]; omega
      · have t1 : decide ((s[k].toNat : Int) < 32) = false := decide_eq_false (by omega)
        have t2 : ((s[k].toNat : Int) == 127) = false := tF 127 h2 (by omega)
        have t3 : decide ((127 : Int) < s[k].toNat) = true := decide_eq_true (by omega)
        rw [hp] at hG
        cases m with
        | false =>
          rw [Bool.false_and] at hG
          have HR := hide hG
          clear hst hG hp h1 h2 h3
          go_wp2_with fail
          go_ret
          exact ⟨ret_bool HR.out, rfl⟩
        | true =>
          rw [Bool.true_and] at hG
          have HR := hide hG
          clear hst hG hp h1 h2 h3
          go_wp2_with fail
          go_round
          case rel => exact ⟨k + 1, by omega, by go_num, HR⟩
          case measure => simp [intOf]; omega
    · have HR : Hid (true = plnL m s.data.toList) := hide (by
        have := HG.out
        rw [drop_nil s k (by omega)] at this
        exact this)
      go_wp2_with fail
      go_ret
      exact ⟨ret_bool HR.out, rfl⟩
theorem nm_case7 (c : UInt8) : (97 ≤ c.toNat ∧ c.toNat ≤ 122 ∧ nmB c = true) ∨ (c.toNat < 97 ∧ nmB c = (digitB c || c == 45)) ∨ (97 ≤ c.toNat ∧ 122 < c.toNat ∧ nmB c = (digitB c || c == 45)) :=
  u8_all (p := fun c => (97 ≤ c.toNat ∧ c.toNat ≤ 122 ∧ nmB c = true) ∨ (c.toNat < 97 ∧ nmB c = (digitB c || c == 45)) ∨ (97 ≤ c.toNat ∧ 122 < c.toNat ∧ nmB c = (digitB c || c == 45))) (by decide +kernel) c
theorem nm_step7 (s : ByteArray) (k : Nat) (h : k < s.size) : (s.data.toList.drop k).all nmB = (nmB s[k] && (s.data.toList.drop (k + 1)).all nmB) := by rw [drop_cons s k h]; rfl
set_option maxHeartbeats 4000000 in
theorem named07_any (s : ByteArray) (w : World) (hs : s.size ≤ 70368744177664) :
    Calls Tryz.prog 37 #[.string s] w fun e w' => e = .returned (.bool (nameB s.data.toList)) ∧ w = w' := by
  have hsm : s.size < 9223372036854775807 := by omega
  go_enter Tryz.func37, Tryz.ntmps37
  go_wp2_with fail
  go_loop [3] (fun i => ∃ k : Nat, k ≤ s.size ∧ i = .int .i64 k ∧ Hid ((s.data.toList.drop k).all nmB = s.data.toList.all nmB)) (fun i => s.size - (intOf i).toNat)
  case atStart => exact ⟨0, Nat.zero_le _, rfl, hide rfl⟩
  case round =>
    obtain ⟨k, hk, rfl, HG⟩ := hrel
    by_cases hlt : k < s.size
    · have hst := nm_step7 s k hlt
      have hG := HG.out
      rw [hst] at hG
      have CD := hide (fun (w : World) => digit03_any s[k] w)
      have HBAD : Hid (nmB s[k] = false → false = nameB s.data.toList) := hide (fun h => by
        rw [h, Bool.false_and] at hG
        unfold nameB; rw [← hG]; rfl)
      have HOK : Hid (nmB s[k] = true → (s.data.toList.drop (k + 1)).all nmB = s.data.toList.all nmB) := hide (fun h => by
        rw [h, Bool.true_and] at hG; exact hG)
      clear hG hst
      have hk6 : k < 9223372036854775807 := by omega
      rcases nm_case7 s[k] with ⟨h1, h2, hp⟩ | ⟨h1, hp⟩ | ⟨h1, h2, hp⟩
      · have t1 : decide ((97 : Int) ≤ s[k].toNat) = true := decide_eq_true (by omega)
        have t2 : decide ((s[k].toNat : Int) ≤ 122) = true := decide_eq_true (by omega)
        have HR := hide (HOK.out hp)
        clear hp h1 h2
        go_wp2_with (go_at_call 56; refine (CD.out _).mono ?_; rintro e w5 ⟨rfl, rfl⟩)
        go_round
        case rel => exact ⟨k + 1, by omega, by go_num, HR⟩
        case measure => simp [intOf]; omega
      · have t1 : decide ((97 : Int) ≤ s[k].toNat) = false := decide_eq_false (by omega)
        cases hd : digitB s[k] with
        | true =>
          rw [hd] at hp CD
          have HR := hide (HOK.out (by rw [hp]; rfl))
          clear hp h1 hd
          go_wp2_with (go_at_call 56; refine (CD.out _).mono ?_; rintro e w5 ⟨rfl, rfl⟩)
          go_round
          case rel => exact ⟨k + 1, by omega, by go_num, HR⟩
          case measure => simp [intOf]; omega
        | false =>
          rw [hd] at hp CD
          by_cases h45 : s[k] = 45
          · have t4 : ((s[k].toNat : Int) == 45) = true := tT 45 h45 (by omega)
            have t4b : ((s[k].toNat : Int) != 45) = false := by rw [bne, t4]; rfl
            have HR := hide (HOK.out (by rw [hp, h45]; rfl))
            clear hp h1 hd h45
            go_wp2_with (go_at_call 56; refine (CD.out _).mono ?_; rintro e w5 ⟨rfl, rfl⟩)
            go_round
            case rel => exact ⟨k + 1, by omega, by go_num, HR⟩
            case measure => simp [intOf]; omega
          · have t4 : ((s[k].toNat : Int) == 45) = false := tF 45 h45 (by omega)
            have t4b : ((s[k].toNat : Int) != 45) = true := by rw [bne, t4]; rfl
            have HR := hide (HBAD.out (by rw [hp, beq_eq_false_iff_ne.2 h45]; rfl))
            clear hp h1 hd h45
            go_wp2_with (go_at_call 56; refine (CD.out _).mono ?_; rintro e w5 ⟨rfl, rfl⟩)
            go_ret
            exact ⟨ret_bool HR.out, rfl⟩
      · have t1 : decide ((97 : Int) ≤ s[k].toNat) = true := decide_eq_true (by omega)
        have t2 : decide ((s[k].toNat : Int) ≤ 122) = false := decide_eq_false (by omega)
        cases hd : digitB s[k] with
        | true =>
          rw [hd] at hp CD
          have HR := hide (HOK.out (by rw [hp]; rfl))
          clear hp h1 h2 hd
          go_wp2_with (go_at_call 56; refine (CD.out _).mono ?_; rintro e w5 ⟨rfl, rfl⟩)
          go_round
          case rel => exact ⟨k + 1, by omega, by go_num, HR⟩
          case measure => simp [intOf]; omega
        | false =>
          rw [hd] at hp CD
          have h45 : s[k] ≠ 45 := fun e => by rw [e] at h1; exact absurd h1 (by decide)
          have t4 : ((s[k].toNat : Int) == 45) = false := tF 45 h45 (by omega)
          have t4b : ((s[k].toNat : Int) != 45) = true := by rw [bne, t4]; rfl
          have HR := hide (HBAD.out (by rw [hp, beq_eq_false_iff_ne.2 h45]; rfl))
          clear hp h1 h2 hd h45
          go_wp2_with (go_at_call 56; refine (CD.out _).mono ?_; rintro e w5 ⟨rfl, rfl⟩)
          go_ret
          exact ⟨ret_bool HR.out, rfl⟩
    · have HR : Hid ((!s.data.toList.isEmpty) = nameB s.data.toList) := hide (by
        have := HG.out
        rw [drop_nil s k (by omega)] at this
        unfold nameB
        rw [← this]; rfl)
      have HE : Hid ((!s.toList.isEmpty) = !s.data.toList.isEmpty) := hide (by rw [bytes_list])
      go_wp2_with fail
      go_ret
      exact ⟨ret_bool (HE.out.trans HR.out), rfl⟩
end Go.Proofs.YtienjpelmbldpaaGreatDoor
