/- WALK of the law LinkClean. No statement is proved here. Own work of the verifier. -/
import Derived.Test.YtlhjdjjbmljilaaDoorLinkL0
namespace Go.Proofs.YtlhjdjjbmljilaaDoor
open Go.RowKit
set_option linter.unusedVariables false
set_option linter.unusedSimpArgs false
set_option maxRecDepth 100000
theorem clean_ends (l : List UInt8) (C : ByteArray) (hC : C.data.toList = lkClean l) : C.size = 0 ∨ ∃ (n : Nat) (h0 : 0 < C.size) (hn : n < C.size), (C.size : Int) - 1 = n ∧ ¬ C[0].toNat ≤ 32 ∧ ¬ (C[n]'hn).toNat ≤ 32 := by
  rcases Nat.eq_zero_or_pos C.size with h | h
  · exact .inl h
  · refine .inr ⟨C.size - 1, h, by omega, by omega, ?_, ?_⟩
    · have h1 := clean_head l
      rw [← hC] at h1
      have h2 := h1 _ _ (drop_cons C 0 h)
      exact of_decide_eq_false h2
    · have h1 := clean_last l
      rw [← hC] at h1
      have e := take_snoc C (C.size - 1) (by omega)
      rw [List.take_of_length_le (by rw [toList_length]; omega)] at e
      have h2 := h1 (C[C.size - 1]'(by omega)) (C.data.toList.take (C.size - 1)).reverse (by rw [e, List.reverse_append, List.take_append_of_le_length (by rw [List.length_take, toList_length]; omega), List.take_take]; simp)
      exact of_decide_eq_false h2
theorem isEmpty_of (C : ByteArray) (h : C.size = 0) : C.toList.isEmpty = true := by
  have : C.data.toList = [] := List.eq_nil_of_length_eq_zero (by rw [toList_length]; exact h)
  rw [bytes_list, this]; rfl
theorem isEmpty_no (C : ByteArray) (h : 0 < C.size) : C.toList.isEmpty = false := by
  have e := drop_cons C 0 h
  rw [List.drop_zero] at e
  rw [bytes_list, e]; rfl
set_option maxHeartbeats 2000000 in
theorem law_LinkClean (s : ByteArray) (hss : s.size ≤ maxLen) (w : World) (hE : EnvU w) :
    Calls Tryd.prog 3 #[.string s] w fun e w' => e = .returned (.bool true) ∧ Below w.heap.size w w' := by
  rcases Nat.lt_or_ge 3000 s.size with hqs | hs
  · have HDs : Hid (decide (s.size ≤ 3000) = false) := decide_eq_false (by omega)
    have HE := hide hE
    clear hE
    go_enter Tryd.func3, Tryd.ntmps3
    go_wp2_with fail
    refine (short16_any s _ hss).mono ?_
    rintro e w1 ⟨rfl, rfl⟩
    rw [HDs.out]
    go_wp2_with fail
    refine (live16_any _ HE.out).mono ?_
    rintro e w1 ⟨rfl, hb1⟩
    go_wp2_with fail
    go_ret
    exact ⟨rfl, hb1⟩
  have HDs : Hid (decide (s.size ≤ 3000) = true) := decide_eq_true hs
  obtain ⟨C, hC⟩ : ∃ C, C = str (lkClean s.data.toList) := ⟨_, rfl⟩
  have hCs : C.size ≤ 3000 := by rw [hC]; exact Nat.le_trans (clean_size s) hs
  have hCl : C.data.toList = lkClean s.data.toList := by rw [hC, str_toList]
  obtain ⟨K, hK⟩ : ∃ K : Nat, lkKind (lkClean s.data.toList) = K := ⟨_, rfl⟩
  have HCC : Hid (str (lkClean C.data.toList) = C) := hide (by rw [hCl, clean_clean]; exact hC.symm)
  have HK1 : Hid (lkKind (lkClean C.data.toList) = K) := hide (by rw [hCl, clean_clean]; exact hK)
  have HK := hide hK
  have HT : Hid (∀ c ∈ C.data.toList, tagB c = false) := hide (by rw [hCl]; exact clean_tag _)
  have HEN := hide (clean_ends s.data.toList C hCl)
  have HC := hide hC
  have HE := hide hE
  clear hC hCl hK hE
  go_enter Tryd.func3, Tryd.ntmps3
  go_wp2_with fail
  refine (short16_any s _ hss).mono ?_
  rintro e w1 ⟨rfl, rfl⟩
  rw [HDs.out]
  go_wp2_with fail
  refine (linkClean_any s _ (by omega) HE.out).mono ?_
  rintro e w1_ ⟨rfl, hb⟩
  have HE1 := hide (HE.out.kept hb)
  have HB1 := hide hb
  clear hb
  rw [← HC.out]
  go_wp2_with fail
  go_loop [4] (fun i => ∃ k : Nat, k ≤ C.size ∧ i = .int .i64 k) (fun i => C.size - (intOf i).toNat)
  case atStart => exact ⟨0, Nat.zero_le _, rfl⟩
  case round =>
    obtain ⟨k, hk, rfl⟩ := hrel
    by_cases hlt : k < C.size
    · have hm : C[k] ∈ C.data.toList := by rw [← Array.mem_def]; exact Array.getElem_mem (by exact hlt)
      have hc := HT.out _ hm
      rcases tag_case C[k] with ⟨hx, _⟩ | ⟨hx, n9, n10, n13⟩
      · rw [hc] at hx; cases hx
      have s1 : ((C[k].toNat : Int) == 9) = false := beq_eq_false_iff_ne.2 (by omega)
      have s2 : ((C[k].toNat : Int) == 10) = false := beq_eq_false_iff_ne.2 (by omega)
      have s3 : ((C[k].toNat : Int) == 13) = false := beq_eq_false_iff_ne.2 (by omega)
      clear hm hc hx n9 n10 n13
      go_wp2_with fail
      go_round
      case rel => exact ⟨k + 1, by omega, by go_num⟩
      case measure => simp [intOf]; omega
    · have hen := HEN.out
      have hrest : True := trivial
      rcases hen with h | ⟨n, h0, hn, hz, c0, c1⟩
      all_goals
        first
          | (have t0 : C.toList.isEmpty = true := isEmpty_of C h
             have h' : C.size ≤ 0 := Nat.le_of_eq h
             clear h
             go_wp2_with fail)
          | (have t0 : C.toList.isEmpty = false := isEmpty_no C h0
             have t1 : decide ((C[0].toNat : Int) ≤ 32) = false := decide_eq_false (by omega)
             have t2 : decide ((C[n].toNat : Int) ≤ 32) = false := decide_eq_false (by omega)
             clear c0 c1
             go_wp2_with fail)
        refine (linkClean_any C _ (by omega) HE1.out).mono ?_
        rintro e w2_ ⟨rfl, hb⟩
        have HE2 := hide (HE1.out.kept hb)
        have HB2 := hide (HB1.out.trans (hb.mono HB1.out.size))
        clear hb
        rw [HCC.out]
        go_wp2_with fail
        refine (linkKind_any C _ (by omega) HE2.out).mono ?_
        rintro e w3_ ⟨rfl, hb⟩
        have HE3 := hide (HE2.out.kept hb)
        have HB3 := hide (HB2.out.trans (hb.mono HB2.out.size))
        clear hb
        rw [HK1.out]
        go_wp2_with fail
        refine (linkKind_any s _ (by omega) HE3.out).mono ?_
        rintro e w4_ ⟨rfl, hb⟩
        have HE4 := hide (HE3.out.kept hb)
        have HB4 := hide (HB3.out.trans (hb.mono HB3.out.size))
        clear hb
        rw [HK.out]
        go_wp2_with fail
        refine (live16_any _ HE4.out).mono ?_
        rintro e w5_ ⟨rfl, hb⟩
        have HE5 := hide (HE4.out.kept hb)
        have HB5 := hide (HB4.out.trans (hb.mono HB4.out.size))
        clear hb
        go_wp2_with fail
        go_ret
        exact ⟨rfl, HB5.out⟩
end Go.Proofs.YtlhjdjjbmljilaaDoor
