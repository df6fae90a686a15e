/- WALK of the law PctJoined. No statement is proved here. -/
import Derived.Test.YtienjpelmbldpaaPctLaw0
namespace Go.Proofs.Ytienjpelmbldpaa
open Go.RowKit
set_option linter.unusedVariables false
set_option linter.unusedSimpArgs false

set_option maxHeartbeats 1000000 in
theorem law_PctJoined (s : ByteArray) (hss : s.size ≤ maxLen) (t : ByteArray) (htt : t.size ≤ maxLen) (w : World) :
    Calls Try.prog 6 #[.string s, .string t] w fun e w' => e = .returned (.bool true) ∧ Below w.heap.size w w' := by
  rcases Nat.lt_or_ge 5000 s.size with hqs | hs
  · have HDs : Hid (decide (s.size ≤ 5000) = false) := decide_eq_false (by omega)
    go_enter Try.func6, Try.ntmps6
    go_wp2_with fail
    refine (short3_any s _ hss).mono ?_
    rintro e w1 ⟨rfl, rfl⟩
    rw [HDs.out]
    go_wp2_with fail
    refine (live3_any _).mono ?_
    rintro e w1 ⟨rfl, hb1⟩
    go_wp2_with fail
    go_ret
    exact ⟨rfl, hb1⟩
  have HDs : Hid (decide (s.size ≤ 5000) = true) := decide_eq_true hs
  rcases Nat.lt_or_ge 5000 t.size with hqt | ht
  · have HDt : Hid (decide (t.size ≤ 5000) = false) := decide_eq_false (by omega)
    go_enter Try.func6, Try.ntmps6
    go_wp2_with fail
    refine (short3_any s _ hss).mono ?_
    rintro e w1 ⟨rfl, rfl⟩
    rw [HDs.out]
    go_wp2_with fail
    refine (short3_any t _ htt).mono ?_
    rintro e w1 ⟨rfl, rfl⟩
    rw [HDt.out]
    go_wp2_with fail
    refine (live3_any _).mono ?_
    rintro e w1 ⟨rfl, hb1⟩
    go_wp2_with fail
    go_ret
    exact ⟨rfl, hb1⟩
  have HDt : Hid (decide (t.size ≤ 5000) = true) := decide_eq_true ht
  have z1 : (s ++ t).size = s.size + t.size := ByteArray.size_append
  have HE : Hid (str (penc (s ++ t).data.toList) = str (penc s.data.toList) ++ str (penc t.data.toList)) := hide (by
    rw [← str_append, ← penc_append]; congr 2 <;> simp)
  have y1 := (penc_length s.data.toList).2
  have y2 := (penc_length t.data.toList).2
  rw [toList_length] at y1 y2
  have y3 : (str (penc s.data.toList)).size ≤ 15000 := by rw [str_size]; omega
  have y4 : (str (penc t.data.toList)).size ≤ 15000 := by rw [str_size]; omega
  have x1 := (pdec_length s.data.toList).1
  have x2 := (pdec_length t.data.toList).1
  rw [toList_length] at x1 x2
  have x3 : (str (pdec s.data.toList)).size ≤ 5000 := by rw [str_size]; omega
  have x4 : (str (pdec t.data.toList)).size ≤ 5000 := by rw [str_size]; omega
  clear y1 y2 x1 x2
  obtain ⟨f, hf0, hf1, hf2⟩ : ∃ f : Nat, f = s.size - 2 ∧ f ≤ s.size ∧ ((s.size : Int) - 2 < 0 ∧ f = 0 ∨ ¬ (s.size : Int) - 2 < 0 ∧ (f : Int) = (s.size : Int) - 2) := ⟨s.size - 2, rfl, by omega, by omega⟩
  have HF0 := hide hf0
  clear hf0
  have HD0 : Hid ((∀ j : Nat, f ≤ j → j < s.size → s.data.toList[j]? ≠ some 37) → str (pdec (s ++ t).data.toList) = str (pdec s.data.toList) ++ str (pdec t.data.toList)) := hide (fun h => by
    rw [← str_append, ← pdec_append]
    · congr 2 <;> simp
    · intro x hx hx37
      subst hx37
      obtain ⟨j, hj⟩ := List.mem_iff_getElem?.1 hx
      rw [List.getElem?_drop, toList_length] at hj
      have := (List.getElem?_eq_some_iff.1 hj).1
      rw [toList_length] at this
      exact h _ (by rw [HF0.out]; omega) this hj)
  go_enter Try.func6, Try.ntmps6
  go_wp2_with fail
  refine (short3_any s _ hss).mono ?_
  rintro e w1 ⟨rfl, rfl⟩
  rw [HDs.out]
  go_wp2_with fail
  refine (short3_any t _ htt).mono ?_
  rintro e w1 ⟨rfl, rfl⟩
  rw [HDt.out]
  go_wp2_with fail
  refine (encode_any _ _ (by omega)).mono ?_
  rintro e w1 ⟨rfl, hb1⟩
  rw [HE.out]
  go_wp2_with fail
  refine (encode_any _ _ (by omega)).mono ?_
  rintro e w2 ⟨rfl, hb2⟩
  go_wp2_with fail
  refine (encode_any _ _ (by omega)).mono ?_
  rintro e w3 ⟨rfl, hb3⟩
  have k2 := hb1.trans (hb2.mono hb1.size)
  have k3 := k2.trans (hb3.mono k2.size)
  rcases hf2 with ⟨f2, f3⟩ | ⟨f2, f3⟩
  all_goals
    go_wp2_with fail
    go_loop [5] (fun i => ∃ k : Nat, f ≤ k ∧ k ≤ s.size ∧ i = .int .i64 k ∧ ∀ j : Nat, f ≤ j → j < k → s.data.toList[j]? ≠ some 37) (fun i => s.size - (intOf i).toNat)
    case atStart => exact ⟨f, Nat.le_refl _, by omega, by first | (rw [f3]; rfl) | go_num, fun j h1 h2 => absurd h2 (by omega)⟩
    case round =>
      obtain ⟨k, hk0, hk, rfl, hd⟩ := hrel
      have HD := hide hd
      clear hd
      by_cases hlt : k < s.size
      · have hg : s.data.toList[k]? = some s[k] := by rw [List.getElem?_eq_getElem (by rw [toList_length]; exact hlt)]; rfl
        by_cases h37 : s[k] = 37
        · have t0 : ((s[k].toNat : Int) == 37) = true := tT 37 h37 (by omega)
          clear h37 hg
          go_wp2_with fail
          refine (live3_any _).mono ?_
          rintro e wl ⟨rfl, hbl⟩
          go_wp2_with fail
          go_ret
          exact ⟨rfl, k3.trans (hbl.mono k3.size)⟩
        · have t0 : ((s[k].toNat : Int) == 37) = false := tF 37 h37 (by omega)
          have HN := hide h37
          have HG := hide hg
          clear h37 hg
          go_wp2_with fail
          go_round
          case rel => exact ⟨k + 1, by omega, by omega, by go_num, fun j h1 h2 => by
            rcases Nat.lt_succ_iff_lt_or_eq.1 h2 with h' | h'
            · exact HD.out j h1 h'
            · rw [h', HG.out]; intro e; exact HN.out (Option.some.inj e)⟩
          case measure => simp [intOf]; omega
      · have HP := hide (HD0.out (fun j h1 h2 => HD.out j h1 (by omega)))
        go_wp2_with fail
        refine (decode_any _ _ (by omega)).mono ?_
        rintro e w4 ⟨rfl, hb4⟩
        rw [HP.out]
        go_wp2_with fail
        refine (decode_any _ _ (by omega)).mono ?_
        rintro e w5 ⟨rfl, hb5⟩
        go_wp2_with fail
        refine (decode_any _ _ (by omega)).mono ?_
        rintro e w6 ⟨rfl, hb6⟩
        have k4 := k3.trans (hb4.mono k3.size)
        have k5 := k4.trans (hb5.mono k4.size)
        have k6 := k5.trans (hb6.mono k5.size)
        go_wp2_with fail
        refine (live3_any _).mono ?_
        rintro e wl ⟨rfl, hbl⟩
        go_wp2_with fail
        go_ret
        exact ⟨rfl, k6.trans (hbl.mono k6.size)⟩
end Go.Proofs.Ytienjpelmbldpaa
