/- WALK of the law WordValid. No statement is proved here. -/
import Derived.Test.YtgkpennhpggaaaaDoorWordLaw0
import Derived.Test.YtgkpennhpggaaaaDoorRefValid
namespace Go.Proofs.YtgkpennhpggaaaaDoor
open Go.RowKit
set_option linter.unusedVariables false
set_option linter.unusedSimpArgs false
set_option maxRecDepth 100000

set_option maxHeartbeats 2000000 in
theorem law_WordValid (s : ByteArray) (hss : s.size ≤ maxLen) (w : World) (hE : Env w) :
    Calls Tryd.prog 6 #[.string s] w fun e w' => e = .returned (.bool true) ∧ Below w.heap.size w w' := by
  have HE := hide hE
  clear hE
  rcases Nat.lt_or_ge 2000 s.size with hqs | hs
  · have HDs : Hid (decide (s.size ≤ 2000) = false) := decide_eq_false (by omega)
    go_enter Tryd.func6, Tryd.ntmps6
    go_wp2_with fail
    refine (short5_any s _ hss).mono ?_
    rintro e w1 ⟨rfl, rfl⟩
    rw [HDs.out]
    go_wp2_with fail
    refine (live5_any _ HE.out).mono ?_
    rintro e w1 ⟨rfl, hb1⟩
    go_wp2_with fail
    go_ret
    exact ⟨rfl, hb1⟩
  have HDs : Hid (decide (s.size ≤ 2000) = true) := decide_eq_true hs
  have zd := decW_length false [] s.data.toList
  rw [toList_length] at zd
  simp only [List.length_nil, Nat.zero_add] at zd
  obtain ⟨t, ht⟩ : ∃ t, t = str (decW false [] s.data.toList) := ⟨_, rfl⟩
  have zt : t.size ≤ 6000 := by rw [ht, str_size]; omega
  have HVT : Hid (str (validL t.data.toList) = t) := hide (by rw [ht, str_toList, valid_whole _ (decW_whole _ _ _)])
  obtain ⟨v, hv⟩ : ∃ v, v = str (validL s.data.toList) := ⟨_, rfl⟩
  have HV := hide hv
  have HT := hide ht
  have HPL : Hid ((∀ i, (s.data.toList.drop i).take 2 ≠ [61, 63]) → t = v) := hide (fun h => by rw [ht, hv, decW_plain false [] _ h, List.nil_append])
  clear zd ht hv
  go_enter Tryd.func6, Tryd.ntmps6
  go_wp2_with fail
  refine (short5_any s _ hss).mono ?_
  rintro e w1 ⟨rfl, rfl⟩
  rw [HDs.out]
  go_wp2_with fail
  refine (wordDecode_any s _ (by omega) HE.out.1).mono ?_
  rintro e w1 ⟨rfl, hb1⟩
  rw [← HT.out]
  go_wp2_with fail
  refine (refValid_any t _ (by omega)).mono ?_
  rintro e w2 ⟨rfl, hb2⟩
  rw [HVT.out]
  have k2 := hb1.trans (hb2.mono hb1.size)
  go_wp2_with fail
  go_loop [4] (fun i => ∃ k : Nat, k ≤ s.size ∧ i = .int .i64 k ∧ Hid (∀ i, i < k → (s.data.toList.drop i).take 2 ≠ [61, 63])) (fun i => s.size - (intOf i).toNat)
  case atStart => exact ⟨0, Nat.zero_le _, rfl, hide (fun i h => absurd h (by omega))⟩
  case round =>
    obtain ⟨k, hk, rfl, HN⟩ := hrel
    by_cases hlt : k + 1 < s.size
    · have hlt' : k < s.size := by omega
      have hc := drop_cons s k hlt'
      have hc2 := drop_cons s (k + 1) hlt
      have htk : (s.data.toList.drop k).take 2 = [s[k], s[k + 1]] := by rw [hc, hc2]; rfl
      have HTK := hide htk
      have e1 : (k : Int) + 1 < s.size := by omega
      obtain ⟨c, hcc⟩ : ∃ c, s[k + 1] = c := ⟨_, rfl⟩
      have HCC := hide hcc
      by_cases h61 : s[k] = 61
      · have t0 : ((s[k].toNat : Int) == 61) = true := tT 61 h61 (by omega)
        by_cases h63 : s[k + 1] = 63
        · have t1 : ((s[k + 1].toNat : Int) == 63) = true := tT 63 h63 (by omega)
          clear hc hc2 htk h61 h63 hcc
          go_wp2_with fail
          refine (live5_any _ (HE.out.kept k2)).mono ?_
          rintro e wl ⟨rfl, hbl⟩
          go_wp2_with fail
          go_ret
          exact ⟨rfl, k2.trans (hbl.mono k2.size)⟩
        · have t1 : ((s[k + 1].toNat : Int) == 63) = false := tF 63 h63 (by omega)
          have HN2 := hide (fun (i : Nat) (hi : i < k + 1) => show (s.data.toList.drop i).take 2 ≠ [61, 63] from by
            rcases Nat.lt_succ_iff_lt_or_eq.1 hi with h | rfl
            · exact HN.out i h
            · rw [HTK.out]; intro e; exact h63 (by injection e with _ e; injection e))
          clear hc hc2 htk h61 h63 hcc
          go_wp2_with fail
          go_round
          case rel => exact ⟨k + 1, by omega, by go_num, HN2⟩
          case measure => simp [intOf]; omega
      · have t0 : ((s[k].toNat : Int) == 61) = false := tF 61 h61 (by omega)
        have HN2 := hide (fun (i : Nat) (hi : i < k + 1) => show (s.data.toList.drop i).take 2 ≠ [61, 63] from by
          rcases Nat.lt_succ_iff_lt_or_eq.1 hi with h | rfl
          · exact HN.out i h
          · rw [HTK.out]; intro e; exact h61 (by injection e))
        clear hc hc2 htk h61 hcc
        go_wp2_with fail
        go_round
        case rel => exact ⟨k + 1, by omega, by go_num, HN2⟩
        case measure => simp [intOf]; omega
    · have HEQ := hide (HPL.out (fun i => by
        by_cases hi : i < k
        · exact HN.out i hi
        · intro e
          have := congrArg List.length e
          rw [List.length_take, List.length_drop, toList_length] at this
          simp at this; omega))
      go_wp2_with fail
      refine (valid_any s _ (by omega)).mono ?_
      rintro e w3 ⟨rfl, hb3⟩
      rw [← HV.out, ← HEQ.out]
      have k3 := k2.trans (hb3.mono k2.size)
      go_wp2_with fail
      refine (live5_any _ (HE.out.kept k3)).mono ?_
      rintro e wl ⟨rfl, hbl⟩
      go_wp2_with fail
      go_ret
      exact ⟨rfl, k3.trans (hbl.mono k3.size)⟩
end Go.Proofs.YtgkpennhpggaaaaDoor
