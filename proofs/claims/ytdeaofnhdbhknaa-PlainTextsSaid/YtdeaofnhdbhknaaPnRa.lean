/- WALK of muslinref20.Level. No statement is proved here. Own work of the verifier. -/
import Derived.Test.YtdeaofnhdbhknaaPnA
import Derived.Test.YtdeaofnhdbhknaaPnU
namespace Go.Proofs.Ytdeaofnhdbhknaa
open Go.RowKit
set_option linter.unusedVariables false
set_option linter.unusedSimpArgs false
set_option maxRecDepth 100000
theorem dropB_one (c : UInt8) (r : List UInt8) (h : c ≠ 32) : dropB (c :: r) = c :: r := by simp [dropB, h]
set_option maxHeartbeats 2000000 in
theorem refLevel_any (s : ByteArray) (w : World) (hs : s.size ≤ 1000000) :
    Calls Try.prog 11 #[.string s] w fun e w' => e = .returned (levelV (levelL s.data.toList)) ∧ ∃ n, w' = w.drewN n := by
  go_enter Try.func11, Try.ntmps11
  go_wp2_with fail
  go_loopw [4, 5] (fun n i wr => ∃ (k m : Nat), k ≤ 20 ∧ m ≤ s.size ∧ n = .int .i64 k ∧ i = .int .i64 m ∧ Hid (levelL s.data.toList = (k + (lvP (20 - k) (s.data.toList.drop m)).1, (lvP (20 - k) (s.data.toList.drop m)).2)) ∧ Hid (wr = w)) (fun n _ _ => 20 - (intOf n).toNat)
  case atStart => exact ⟨0, 0, by omega, by omega, rfl, rfl, hide (by unfold levelL; simp), hide rfl⟩
  case round =>
    obtain ⟨k, m, hk, hm, rfl, rfl, HD, HW⟩ := hrel
    have HEND : Hid ((lvP (20 - k) (s.data.toList.drop m)) = (0, s.data.toList.drop m) → Value.tuple #[.int .i64 (k : Int), .string (s.extract m s.size)] = levelV (levelL s.data.toList)) := hide (fun e => by
      rw [HD.out, e]
      unfold levelV
      rw [show s.extract m s.size = str (s.data.toList.drop m) from ext_list (by rw [extract_end, str_toList])]
      rfl)
    by_cases hlt : m < s.size
    · by_cases h62 : s[m] = 62
      · have u1 : ((s[m].toNat : Int) == 62) = true := tT 62 h62 (by decide)
        by_cases hk2 : k < 20
        · have t1 : decide ((k : Int) < 20) = true := decide_eq_true (by omega)
          have HQ : Hid (levelL s.data.toList = (k + 1 + (lvP (20 - (k + 1)) (dropB (s.data.toList.drop (m + 1)))).1, (lvP (20 - (k + 1)) (dropB (s.data.toList.drop (m + 1)))).2)) := hide (by
            rw [HD.out, drop_cons s m hlt, h62, show 20 - k = 20 - (k + 1) + 1 by omega, lvP_sign]
            simp only
            rw [Nat.add_assoc, Nat.add_comm 1])
          clear h62
          by_cases hlt2 : m + 1 < s.size
          · have t2 : decide ((m : Int) + 1 < (s.size : Int)) = true := decide_eq_true (by omega)
            have e1 : ((m : Int) + 1).toNat = m + 1 := by omega
            by_cases h32 : s[m + 1] = 32
            · have u2 : ((s[m + 1].toNat : Int) == 32) = true := tT 32 h32 (by decide)
              have HB : Hid (dropB (s.data.toList.drop (m + 1)) = s.data.toList.drop (m + 2)) := hide (by rw [drop_cons s (m + 1) hlt2, h32]; rfl)
              clear h32
              go_wp2_with fail
              go_roundw
              case rel => exact ⟨k + 1, m + 2, by omega, by omega, by go_num, by go_num, hide (by rw [HQ.out, HB.out]), HW⟩
              case measure => simp [intOf]; omega
            · have u2 : ((s[m + 1].toNat : Int) == 32) = false := tF 32 h32 (by decide)
              have HB : Hid (dropB (s.data.toList.drop (m + 1)) = s.data.toList.drop (m + 1)) := hide (by rw [drop_cons s (m + 1) hlt2]; exact dropB_one _ _ h32)
              clear h32
              go_wp2_with fail
              go_roundw
              case rel => exact ⟨k + 1, m + 1, by omega, by omega, by go_num, by go_num, hide (by rw [HQ.out, HB.out]), HW⟩
              case measure => simp [intOf]; omega
          · have t2 : decide ((m : Int) + 1 < (s.size : Int)) = false := decide_eq_false (by omega)
            have HB : Hid (dropB (s.data.toList.drop (m + 1)) = s.data.toList.drop (m + 1)) := hide (by rw [List.drop_eq_nil_of_le (by rw [toList_length]; omega)]; rfl)
            go_wp2_with fail
            go_roundw
            case rel => exact ⟨k + 1, m + 1, by omega, by omega, by go_num, by go_num, hide (by rw [HQ.out, HB.out]), HW⟩
            case measure => simp [intOf]; omega
        · have t1 : decide ((k : Int) < 20) = false := decide_eq_false (by omega)
          have HR := hide (HEND.out (by rw [show 20 - k = 0 by omega, lvP_zero]))
          clear h62
          go_wp2_with fail
          go_region
          go_wp2_with fail
          go_ret2
          exact ⟨congrArg _ HR.out, 1, by rw [HW.out]; rfl⟩
      · have u1 : ((s[m].toNat : Int) == 62) = false := tF 62 h62 (by decide)
        have HR := hide (HEND.out (by rw [drop_cons s m hlt, lvP_none _ (s[m] :: s.data.toList.drop (m + 1)) (fun e => h62 (Option.some.inj e))]))
        clear h62
        go_wp2_with fail
        go_region
        go_wp2_with fail
        go_ret2
        exact ⟨congrArg _ HR.out, 1, by rw [HW.out]; rfl⟩
    · obtain rfl : m = s.size := by omega
      have HR := hide (HEND.out (by rw [List.drop_eq_nil_of_le (by rw [toList_length]; omega), lvP_nil]))
      rw [show s.extract s.size s.size = ByteArray.empty from ext_list (by rw [extract_none]; rfl)] at HR
      go_wp2_with fail
      go_region
      go_wp2_with fail
      go_ret2
      exact ⟨congrArg _ HR.out, 1, by rw [HW.out]; rfl⟩
end Go.Proofs.Ytdeaofnhdbhknaa
