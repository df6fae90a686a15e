/- WALK of qp.Decode. No statement is proved here. -/
import Derived.Test.YtlllboleinnfiaaQpWalk2
import Derived.Test.YtlllboleinnfiaaQpDec
namespace Go.Proofs.Ytlllboleinnfiaa
open Go.RowKit
set_option linter.unusedVariables false
set_option linter.unusedSimpArgs false

theorem equals_suf (s : ByteArray) (k : Nat) (w : World) (hs : s.size ≤ maxLen) (hk : k < s.size) :
    Calls Try.prog 15 #[.string (s.extract k s.size)] w fun e w' => e = .returned (eqV (s.data.toList.drop (k + 1))) ∧ Below w.heap.size w w' := by
  have := equals_any (s.extract k s.size) w (by rw [ByteArray.size_extract]; omega) (by rw [ByteArray.size_extract]; omega)
  rw [extract_end, List.drop_drop] at this
  exact this

set_option maxHeartbeats 2000000 in
theorem decode_any (s : ByteArray) (w : World) (hs : s.size ≤ 70368744177664) :
    Calls Try.prog 11 #[.string s] w fun e w' => e = .returned (.string (str (dec s.data.toList))) ∧ Below w.heap.size w w' := by
  have hs' : s.size ≤ maxLen := by unfold maxLen; omega
  go_enter Try.func11, Try.ntmps11
  go_wp2_with (refine wpList_buf_make rfl _ _ rfl w.heap.size w (Below.refl _ _) (Nat.le_refl _) s.size s.size rfl rfl rfl (by omega) ?_; intro v0 w0 hb0)
  go_loopw [3, 4] (fun v i wr => ∃ (k : Nat) (acc : List UInt8), k ≤ s.size ∧ i = .int .i64 k ∧ Buf w.heap.size v acc w wr ∧ acc.length ≤ k ∧ acc ++ dec (s.data.toList.drop k) = dec s.data.toList) (fun _ i _ => s.size - (intOf i).toNat)
  case atStart => exact ⟨0, [], Nat.zero_le _, rfl, hb0, Nat.le_refl _, by simp⟩
  case round =>
    obtain ⟨k, acc, hk, rfl, hb, hacc, hd⟩ := hrel
    have HD := hide hd
    have HB := hide hb
    clear hd hb
    by_cases hlt : k < s.size
    · have hne : s.data.toList.drop k = s[k] :: s.data.toList.drop (k + 1) := drop_cons s k hlt
      have hst1 := decStep_pos (s.data.toList.drop k)
      have hst2 := decStep_le (s.data.toList.drop k) (by rw [hne]; simp)
      have hst3 := decStep_out (s.data.toList.drop k)
      rw [List.length_drop, toList_length] at hst2
      have hR := dec_round HD.out (by rw [toList_length]; exact hlt)
      by_cases heq : s[k] = 61
      · have t0 : ((s[k].toNat : Int) == 61) = true := tT 61 heq (by omega)
        have hs1 : decStep (s.data.toList.drop k) = eqF (s.data.toList.drop (k + 1)) := by rw [hne, heq, decStep_eq]
        have hv : eqV (s.data.toList.drop (k + 1)) = .tuple #[.string (str (decStep (s.data.toList.drop k)).1), .int .i64 (decStep (s.data.toList.drop k)).2] := by rw [hs1]; rfl
        generalize decStep (s.data.toList.drop k) = st at hst1 hst2 hst3 hR hv
        obtain ⟨so, sn⟩ := st
        simp only at hst1 hst2 hst3 hR hv
        have HV := hide hv
        have HR := hide hR
        clear hv hR hs1 hne heq
        go_wp2_with fail
        refine (equals_suf s k _ hs' hlt).mono ?_
        rintro e w1 ⟨rfl, hb1⟩
        rw [HV.out]
        have HB1 := hide (HB.out.kept hb1)
        have hsz : acc.length + (str so).size ≤ 140737488355328 := by rw [str_size]; omega
        go_wp2_with (refine wpList_buf_text rfl _ _ rfl w.heap.size u3 acc rfl w HB1.out (str so) rfl hsz ?_; intro v2 w2 hb2; rw [str_toList] at hb2; have HB2 := hide hb2; clear hb2)
        go_roundw
        case rel => exact ⟨k + sn, acc ++ so, by omega, by go_num, HB2.out, by rw [List.length_append]; omega, HR.out⟩
        case measure => simp [intOf]; omega
      · have t0 : ((s[k].toNat : Int) == 61) = false := tF 61 heq (by omega)
        by_cases hw : isW s[k] = true
        · have hs1 := decStep_white (s.data.toList.drop (k + 1)) hw
          have hn1 : 0 < whiteN (s.data.toList.drop k) := by rw [hne, whiteN_yes hw]; omega
          have hn2 := whiteN_le (s.data.toList.drop k)
          rw [List.length_drop, toList_length] at hn2
          rw [← hne] at hs1
          obtain ⟨n, hN⟩ : ∃ n, n = whiteN (s.data.toList.drop k) := ⟨_, rfl⟩
          rw [← hN] at hs1 hn1 hn2
          have HN := hide hN
          rw [List.drop_drop] at hs1
          obtain ⟨m, hM⟩ : ∃ m, m = eolN (s.data.toList.drop (k + n)) := ⟨_, rfl⟩
          rw [← hM] at hs1
          have HM := hide hM
          have hz : ((n : Int) == 0) = false := by rw [beq_eq_false_iff_ne]; omega
          by_cases hend : k + n = s.size
          · have hq : (((k : Int) + n) == s.size) = true := by rw [beq_iff_eq]; omega
            rw [if_pos (.inl (drop_nil s _ (by omega)))] at hs1
            rw [hs1] at hR
            have HR := hide hR
            clear hN hM hR hs1 hne heq hw hend hst1 hst2 hst3
            go_wp2_with fail
            refine (white_suf s k _ hs' (by omega)).mono ?_
            rintro e w1 ⟨rfl, rfl⟩
            rw [← HN.out]
            go_wp2_with (refine wpList_buf_text rfl _ _ rfl w.heap.size u3 acc rfl w HB.out ByteArray.empty rfl (by rw [ByteArray.size_empty]; omega) ?_; intro v2 w2 hb2; have HB2 := hide hb2; clear hb2)
            go_roundw
            case rel => exact ⟨k + n, acc ++ [], by omega, by go_num, HB2.out, by simp; omega, HR.out⟩
            case measure => simp [intOf]; omega
          · have hq : (((k : Int) + n) == s.size) = false := by rw [beq_eq_false_iff_ne]; omega
            have hnn : s.data.toList.drop (k + n) ≠ [] := by intro e; have := congrArg List.length e; rw [List.length_drop, toList_length] at this; simp at this; omega
            by_cases hm : 0 < m
            · rw [if_pos (.inr hm)] at hs1
              rw [hs1] at hR
              have HR := hide hR
              clear hN hM hR hs1 hne heq hw hend hst1 hst2 hst3 hnn
              go_wp2_with fail
              refine (white_suf s k _ hs' (by omega)).mono ?_
              rintro e w1 ⟨rfl, rfl⟩
              rw [← HN.out]
              go_wp2_with fail
              refine (lineEnd_suf s (k + n) _ hs' (by omega)).mono ?_
              rintro e w1 ⟨rfl, rfl⟩
              rw [← HM.out]
              go_wp2_with (refine wpList_buf_text rfl _ _ rfl w.heap.size u3 acc rfl w HB.out ByteArray.empty rfl (by rw [ByteArray.size_empty]; omega) ?_; intro v2 w2 hb2; have HB2 := hide hb2; clear hb2)
              go_roundw
              case rel => exact ⟨k + n, acc ++ [], by omega, by go_num, HB2.out, by simp; omega, HR.out⟩
              case measure => simp [intOf]; omega
            · rw [if_neg (fun h => h.elim hnn hm)] at hs1
              rw [hs1] at hR
              have HR := hide hR
              have hx1 := extract_size_le s k (k + n)
              clear hN hM hR hs1 hne heq hw hend hst1 hst2 hst3 hnn
              go_wp2_with fail
              refine (white_suf s k _ hs' (by omega)).mono ?_
              rintro e w1 ⟨rfl, rfl⟩
              rw [← HN.out]
              go_wp2_with fail
              refine (lineEnd_suf s (k + n) _ hs' (by omega)).mono ?_
              rintro e w1 ⟨rfl, rfl⟩
              rw [← HM.out]
              go_wp2_with (refine wpList_buf_text rfl _ _ rfl w.heap.size u3 acc rfl w HB.out (s.extract k (k + n)) rfl (by omega) ?_; intro v2 w2 hb2; rw [extract_mid] at hb2; have HB2 := hide hb2; clear hb2)
              go_roundw
              case rel => exact ⟨k + n, acc ++ _, by omega, by go_num, HB2.out, by rw [List.length_append, List.length_take]; omega, HR.out⟩
              case measure => simp [intOf]; omega
        · have hw' : isW s[k] = false := by simpa using hw
          have hs1 := decStep_plain (s.data.toList.drop (k + 1)) heq hw'
          have hn0 : whiteN (s.data.toList.drop k) = 0 := by rw [hne, whiteN_no hw']
          rw [← hne] at hs1
          rw [hs1] at hR
          have HR := hide hR
          have HN := hide hn0
          have hx1 := extract_size_le s k (k + 1)
          have hxl : (s.extract k (k + 1)).data.toList = [s[k]] := by rw [extract_mid, hne]; rfl
          have HX := hide hxl
          have hz : (((0 : Nat) : Int) == 0) = true := rfl
          clear hs1 hn0 hR hne heq hw hw' hst1 hst2 hst3 hxl
          go_wp2_with fail
          refine (white_suf s k _ hs' (by omega)).mono ?_
          rintro e w1 ⟨rfl, rfl⟩
          rw [HN.out]
          go_wp2_with (refine wpList_buf_text rfl _ _ rfl w.heap.size u3 acc rfl w HB.out (s.extract k (k + 1)) rfl (by omega) ?_; intro v2 w2 hb2; rw [HX.out] at hb2; have HB2 := hide hb2; clear hb2)
          go_roundw
          case rel => exact ⟨k + 1, acc ++ _, by omega, by go_num, HB2.out, by simp; omega, HR.out⟩
          case measure => simp [intOf]; omega
    · have hcv := HB.out.convert
      go_wp2
      go_ret
      refine ⟨?_, HB.out.below⟩
      have h := HD.out
      rw [drop_nil s k (by omega), dec_nil, List.append_nil] at h
      exact ret_str (by rw [h])
end Go.Proofs.Ytlllboleinnfiaa
