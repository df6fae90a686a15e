/- WALK of the law EntPlain. No statement is proved here. -/
import Derived.Test.YtnnlhcjcdpdfcaaGreatDoorEntL0
namespace Go.Proofs.YtnnlhcjcdpdfcaaGreatDoor
open Go.RowKit
set_option linter.unusedVariables false
set_option linter.unusedSimpArgs false
set_option maxRecDepth 100000
set_option maxHeartbeats 4000000 in
theorem law_EntPlain (s : ByteArray) (hss : s.size ≤ maxLen) (w : World) (hE : EnvX w) :
    Calls Tryz.prog 12 #[.string s] w fun e w' => e = .returned (.bool true) ∧ Below w.heap.size w w' := by
  have HE := hide hE
  clear hE
  rcases Nat.lt_or_ge 5000 s.size with hqs | hs
  · have HDs : Hid (decide (s.size ≤ 5000) = false) := hide (decide_eq_false (by omega))
    clear hqs
    go_enter Tryz.func12, Tryz.ntmps12
    go_wp2_with fail
    refine (short12_any s _ hss).mono ?_
    rintro e wq ⟨rfl, rfl⟩
    rw [HDs.out]
    go_wp2_with fail
    refine (live12_any _ HE.out).mono ?_
    rintro e wl ⟨rfl, hbl⟩
    go_wp2_with fail
    go_ret
    exact ⟨rfl, hbl⟩
  have HDs : Hid (decide (s.size ≤ 5000) = true) := hide (decide_eq_true hs)
  obtain ⟨X, hX⟩ : ∃ X, X = str (decE s.data.toList) := ⟨_, rfl⟩
  have HX : Hid (str (decE s.data.toList) = X) := hide hX.symm
  have hs2 : s.size ≤ 1048576 := by omega
  have zl := toList_length s
  have zX : X.size ≤ s.size := by
    rw [hX, str_size]; have := decE_len _ s.data.toList (Nat.le_refl _); omega
  have zXi : (X.size : Int) ≤ s.size := by omega
  have zXd : decide (X.size ≤ s.size) = true := decide_eq_true zX
  have HXP : Hid ((38 : UInt8) ∉ s.data.toList → X = s) := hide (fun h => by rw [hX, decE_no (hasC_false h), str_of])
  clear hX zl zX
  go_enter Tryz.func12, Tryz.ntmps12
  go_wp2_with fail
  refine (short12_any s _ hss).mono ?_
  rintro e wq ⟨rfl, rfl⟩
  rw [HDs.out]
  go_wp2_with fail
  go_loopw [3] (fun iv wr => ∃ k : Nat, k ≤ s.size ∧ iv = .int .i64 k ∧ Hid ((38 : UInt8) ∉ s.data.toList.take k) ∧ Hid (wr = w)) (fun iv _ => s.size - (intOf iv).toNat)
  case atStart => exact ⟨0, Nat.zero_le _, rfl, hide (by simp), hide rfl⟩
  case round =>
    obtain ⟨k, hk, rfl, HN, HW⟩ := hrel
    obtain rfl := HW.out
    by_cases hlt : k < s.size
    · by_cases h38 : s[k] = 38
      · have t0 : ((s[k].toNat : Int) == 38) = true := tT 38 h38 (by omega)
        clear h38
        go_wp2_with fail
        refine (entDecode_any s _ hs2 HE.out.1).mono ?_
        rintro e w1 ⟨rfl, hb1⟩
        have HE1 := hide (HE.out.kept hb1)
        have HB1 := hide (hb1)
        clear hb1
        rw [HX.out]
        go_wp2_with fail
        refine (live12_any _ HE1.out).mono ?_
        rintro e w2 ⟨rfl, hb2⟩
        have HE2 := hide (HE1.out.kept hb2)
        have HB2 := hide (HB1.out.trans (hb2.mono HB1.out.size))
        clear hb2
        go_wp2_with fail
        go_ret
        exact ⟨rfl, HB2.out⟩
      · have t0 : ((s[k].toNat : Int) == 38) = false := tF 38 h38 (by omega)
        have HN2 : Hid ((38 : UInt8) ∉ s.data.toList.take (k + 1)) := hide (by
          rw [take_snoc s k hlt, List.mem_append, List.mem_singleton]
          exact fun e => e.elim HN.out (fun e => h38 e.symm))
        clear h38
        go_wp2_with fail
        go_roundw
        case rel => exact ⟨k + 1, by omega, by go_num, HN2, by first | exact trivial | exact hide rfl⟩
        case measure => simp [intOf]; omega
    · have HXE : Hid (X = s) := hide (HXP.out (by
        have := HN.out
        rwa [List.take_of_length_le (by rw [toList_length]; omega)] at this))
      go_wp2_with fail
      refine (entDecode_any s _ hs2 HE.out.1).mono ?_
      rintro e w1 ⟨rfl, hb1⟩
      have HE1 := hide (HE.out.kept hb1)
      have HB1 := hide hb1
      clear hb1
      rw [HX.out, HXE.out]
      go_wp2_with fail
      refine (live12_any _ HE1.out).mono ?_
      rintro e w2 ⟨rfl, hb2⟩
      have HE2 := hide (HE1.out.kept hb2)
      have HB2 := hide (HB1.out.trans (hb2.mono HB1.out.size))
      clear hb2
      go_wp2_with fail
      go_ret
      exact ⟨rfl, HB2.out⟩
end Go.Proofs.YtnnlhcjcdpdfcaaGreatDoor
