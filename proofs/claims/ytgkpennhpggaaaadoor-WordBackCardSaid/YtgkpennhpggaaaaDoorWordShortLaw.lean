/- WALK of the law WordShort. No statement is proved here. -/
import Derived.Test.YtgkpennhpggaaaaDoorWordLaw0
namespace Go.Proofs.YtgkpennhpggaaaaDoor
open Go.RowKit
set_option linter.unusedVariables false
set_option linter.unusedSimpArgs false
set_option maxRecDepth 100000

theorem encodeL_length (l : List UInt8) : (encodeL l).length ≤ 159 * l.length := by
  unfold encodeL
  split
  · omega
  · have h1 := joinW_length (validL l)
    have h2 := validL_length l
    omega
set_option maxHeartbeats 2000000 in
theorem law_WordShort (s : ByteArray) (hss : s.size ≤ maxLen) (w : World) (hE : Env w) :
    Calls Tryd.prog 8 #[.string s] w fun e w' => e = .returned (.bool true) ∧ Below w.heap.size w w' := by
  have HE := hide hE
  clear hE
  rcases Nat.lt_or_ge 2000 s.size with hqs | hs
  · have HDs : Hid (decide (s.size ≤ 2000) = false) := decide_eq_false (by omega)
    go_enter Tryd.func8, Tryd.ntmps8
    go_wp2_with fail
    refine (short5_any s _ hss).mono ?_
    rintro e w1 ⟨rfl, rfl⟩
    rw [HDs.out]
    go_wp2_with fail
    refine (live5_any _ HE.out).mono ?_
    rintro e w1 ⟨rfl, hb1⟩
    go_wp2_with fail
    go_ret
    exact ⟨rfl, hb1⟩
  have HDs : Hid (decide (s.size ≤ 2000) = true) := decide_eq_true hs
  obtain ⟨t, ht⟩ : ∃ t, t = str (encodeL s.data.toList) := ⟨_, rfl⟩
  have zt : t.size ≤ 400000 := by rw [ht, str_size]; have := encodeL_length s.data.toList; rw [toList_length] at this; omega
  have htl : t.data.toList = encodeL s.data.toList := by rw [ht, str_toList]
  have HT := hide ht
  clear ht
  have hps : (t.toList == s.toList) = true ∨ (t.toList == s.toList) = false := by cases (t.toList == s.toList) <;> simp
  have HR : Hid ((t.toList == s.toList) = false → runOK 0 t.data.toList = true) := hide (fun h => by
    rw [htl]
    unfold encodeL
    cases hp : plainL s.data.toList with
    | true =>
      exfalso
      have : t.toList = s.toList := by rw [bytes_list, bytes_list, htl]; unfold encodeL; rw [hp]; rfl
      rw [this] at h
      simp at h
    | false => exact run_join _ (groups_le _))
  clear htl
  rcases hps with hps | hps
  · go_enter Tryd.func8, Tryd.ntmps8
    go_wp2_with fail
    refine (short5_any s _ hss).mono ?_
    rintro e w1 ⟨rfl, rfl⟩
    rw [HDs.out]
    go_wp2_with fail
    obtain ⟨_, m, hm⟩ := HE.out
    have HM := hide hm
    clear hm
    refine (wordEncode_any s m _ (by omega) HM.out).mono ?_
    rintro e w1 ⟨rfl, hb1⟩
    rw [← HT.out]
    go_wp2_with fail
    refine (live5_any _ (HE.out.kept hb1)).mono ?_
    rintro e wl ⟨rfl, hbl⟩
    go_wp2_with fail
    go_ret
    exact ⟨rfl, hb1.trans (hbl.mono hb1.size)⟩
  have HRR := hide (HR.out hps)
  go_enter Tryd.func8, Tryd.ntmps8
  go_wp2_with fail
  refine (short5_any s _ hss).mono ?_
  rintro e w1 ⟨rfl, rfl⟩
  rw [HDs.out]
  go_wp2_with fail
  obtain ⟨_, m, hm⟩ := HE.out
  have HM := hide hm
  clear hm
  refine (wordEncode_any s m _ (by omega) HM.out).mono ?_
  rintro e w1 ⟨rfl, hb1⟩
  rw [← HT.out]
  go_wp2_with fail
  go_loop [4, 5] (fun n i => ∃ (k : Nat) (r : Nat), k ≤ t.size ∧ r ≤ 52 ∧ i = .int .i64 k ∧ n = .int .i64 r ∧ Hid (runOK r (t.data.toList.drop k) = true)) (fun _ i => t.size - (intOf i).toNat)
  case atStart => exact ⟨0, 0, Nat.zero_le _, Nat.zero_le _, rfl, rfl, HRR⟩
  case round =>
    obtain ⟨k, r, hk, hr, rfl, rfl, HK⟩ := hrel
    by_cases hlt : k < t.size
    · have hc := drop_cons t k hlt
      by_cases h32 : t[k] = 32
      · have HN : Hid (runOK 0 (t.data.toList.drop (k + 1)) = true) := hide (by
          have := HK.out
          rw [hc, runOK, if_pos h32] at this; exact this)
        have t0 : ((t[k].toNat : Int) == 32) = true := tT 32 h32 (by omega)
        clear hc h32
        go_wp2_with fail
        go_round
        case rel => exact ⟨k + 1, 0, by omega, by omega, by go_num, rfl, HN⟩
        case measure => simp [intOf]; omega
      · have HN : Hid (r + 1 ≤ 52 ∧ runOK (r + 1) (t.data.toList.drop (k + 1)) = true) := hide (by
          have := HK.out
          rw [hc, runOK, if_neg h32, Bool.and_eq_true, decide_eq_true_eq] at this; exact this)
        have hr2 := HN.out.1
        have t0 : ((t[k].toNat : Int) == 32) = false := tF 32 h32 (by omega)
        clear hc h32
        go_wp2_with fail
        go_round
        case rel => exact ⟨k + 1, r + 1, by omega, by omega, by go_num, by go_num, hide HN.out.2⟩
        case measure => simp [intOf]; omega
    · go_wp2_with fail
      refine (live5_any _ (HE.out.kept hb1)).mono ?_
      rintro e wl ⟨rfl, hbl⟩
      go_wp2_with fail
      go_ret
      exact ⟨rfl, hb1.trans (hbl.mono hb1.size)⟩
end Go.Proofs.YtgkpennhpggaaaaDoor
