/- WALK of the reference's Decode for package qp. No statement is proved here. -/
import Derived.Test.YtlllboleinnfiaaQpRef
import Derived.Test.YtlllboleinnfiaaQpDec
import Derived.StillTailTactics
namespace Go.Proofs.Ytlllboleinnfiaa
open Go.RowKit
set_option linter.unusedVariables false
set_option linter.unusedSimpArgs false

theorem blanks_z (s : ByteArray) (j : Nat) (z : Int) (w : World) (hz : z = j) (hs : s.size ≤ maxLen) (hj : j ≤ s.size) :
    Calls Try.prog 18 #[.string s, .int .i64 z] w fun e w' => e = .returned (.int .i64 (z + whiteN (s.data.toList.drop j))) ∧ w = w' := by
  subst hz
  exact (blanks_any s j w hs hj).mono fun e w' ⟨he, hw⟩ => ⟨he.trans (ret_int (by omega)), hw⟩
theorem eol_z (s : ByteArray) (j : Nat) (z : Int) (w : World) (hz : z = j) (hs : s.size ≤ 70368744177664) (hj : j ≤ s.size) :
    Calls Try.prog 19 #[.string s, .int .i64 z] w fun e w' => e = .returned (.int .i64 (eolN (s.data.toList.drop j))) ∧ w = w' := by
  subst hz
  exact eol_any s j w hs hj

set_option maxRecDepth 100000 in
set_option maxHeartbeats 4000000 in
theorem refDecode_any (s : ByteArray) (w : World) (hs : s.size ≤ 70368744177664) :
    Calls Try.prog 12 #[.string s] w fun e w' => e = .returned (.string (str (dec s.data.toList))) ∧ Below w.heap.size w w' := by
  have hs' : s.size ≤ maxLen := by unfold maxLen; omega
  have hb0 : Buf w.heap.size (.slice none 0 0) [] w w := Buf.nil (Below.refl _ _) (Nat.le_refl _)
  have HB0 := hide hb0
  clear hb0
  go_enter Try.func12, Try.ntmps12
  go_wp2
  go_loopw [3, 4] (fun v i wr => ∃ (k : Nat) (acc : List UInt8), k ≤ s.size ∧ i = .int .i64 k ∧ Buf w.heap.size v acc w wr ∧ acc.length ≤ k ∧ acc ++ dec (s.data.toList.drop k) = dec s.data.toList) (fun _ i _ => s.size - (intOf i).toNat)
  case atStart => exact ⟨0, [], Nat.zero_le _, rfl, HB0.out, Nat.le_refl _, by simp⟩
  case round =>
    obtain ⟨k, acc, hk, rfl, hb, hacc, hd⟩ := hrel
    have HD := hide hd
    have HB := hide hb
    clear hd hb
    by_cases hlt : k < s.size
    · have hne : s.data.toList.drop k = s[k] :: s.data.toList.drop (k + 1) := drop_cons s k hlt
      have hst1 := decStep_pos (s.data.toList.drop k)
      have hst2 := decStep_le (s.data.toList.drop k) (by rw [hne]; simp)
      have hst3 := decStep_out (s.data.toList.drop k)
      rw [List.length_drop, toList_length] at hst2
      have hR := dec_round HD.out (by rw [toList_length]; exact hlt)
      by_cases hw : isW s[k] = true
      · have hs1 := decStep_white (s.data.toList.drop (k + 1)) hw
        have hn1 : 0 < whiteN (s.data.toList.drop k) := by rw [hne, whiteN_yes hw]; omega
        have hn2 := whiteN_le (s.data.toList.drop k)
        rw [List.length_drop, toList_length] at hn2
        rw [← hne] at hs1
        obtain ⟨n, hN⟩ : ∃ n, n = whiteN (s.data.toList.drop k) := ⟨_, rfl⟩
        rw [← hN] at hs1 hn1 hn2
        have HN := hide hN
        rw [List.drop_drop] at hs1
        obtain ⟨m, hM⟩ : ∃ m, m = eolN (s.data.toList.drop (k + n)) := ⟨_, rfl⟩
        rw [← hM] at hs1
        have HM := hide hM
        have ht : ((s[k].toNat : Int) == 32) = true ∨ ((s[k].toNat : Int) == 32) = false ∧ ((s[k].toNat : Int) == 9) = true := by
          simp only [isW, Bool.or_eq_true, beq_iff_eq] at hw
          rcases hw with h | h <;> simp [h]
        by_cases hend : k + n = s.size
        · rw [if_pos (.inl (drop_nil s _ (by omega)))] at hs1
          rw [hs1] at hR
          have HR := hide hR
          have hlt2 : ¬ (k : Int) + n < s.size := by omega
          clear hN hM hR hs1 hne hw hend hst1 hst2 hst3
          rcases ht with t0 | ⟨t0, t1⟩
          all_goals
            go_wp2_with fail
            refine (blanks_any s k _ hs' hk).mono ?_
            rintro e w1 ⟨rfl, rfl⟩
            rw [← HN.out]
            go_wp2_with fail
            go_roundw
            case rel => exact ⟨k + n, acc ++ [], by omega, by go_num, by rw [List.append_nil]; exact HB.out, by simp; omega, HR.out⟩
            case measure => simp [intOf]; omega
        · have hlt2 : (k : Int) + n < s.size := by omega
          have hnn : s.data.toList.drop (k + n) ≠ [] := by intro e; have := congrArg List.length e; rw [List.length_drop, toList_length] at this; simp at this; omega
          by_cases hm : 0 < m
          · rw [if_pos (.inr hm)] at hs1
            rw [hs1] at hR
            have HR := hide hR
            have tm : ((m : Int) == 0) = false := by rw [beq_eq_false_iff_ne]; omega
            clear hN hM hR hs1 hne hw hend hst1 hst2 hst3 hnn
            rcases ht with t0 | ⟨t0, t1⟩
            all_goals
              go_wp2_with fail
              refine (blanks_any s k _ hs' hk).mono ?_
              rintro e w1 ⟨rfl, rfl⟩
              rw [← HN.out]
              go_wp2_with fail
              refine (eol_any s (k + n) _ hs (by omega)).mono ?_
              rintro e w1 ⟨rfl, rfl⟩
              rw [← HM.out]
              go_wp2_with fail
              go_roundw
              case rel => exact ⟨k + n, acc ++ [], by omega, by go_num, by rw [List.append_nil]; exact HB.out, by simp; omega, HR.out⟩
              case measure => simp [intOf]; omega
          · rw [if_neg (fun h => h.elim hnn hm)] at hs1
            rw [hs1] at hR
            have HR := hide hR
            have hx1 := extract_size_le s k (k + n)
            have tm : ((m : Int) == 0) = true := by rw [beq_iff_eq]; omega
            clear hN hM hR hs1 hne hw hend hst1 hst2 hst3 hnn
            rcases ht with t0 | ⟨t0, t1⟩
            all_goals
              go_wp2_with fail
              refine (blanks_any s k _ hs' hk).mono ?_
              rintro e w1 ⟨rfl, rfl⟩
              rw [← HN.out]
              go_wp2_with fail
              refine (eol_any s (k + n) _ hs (by omega)).mono ?_
              rintro e w1 ⟨rfl, rfl⟩
              rw [← HM.out]
              go_wp2_with (refine wpList_buf_text rfl _ _ rfl w.heap.size u3 acc rfl w HB.out (s.extract k (k + n)) rfl (by omega) ?_; intro v2 w2 hb2; rw [extract_mid] at hb2; have HB2 := hide hb2; clear hb2)
              go_roundw
              case rel => exact ⟨k + n, acc ++ _, by omega, by go_num, HB2.out, by rw [List.length_append, List.length_take]; omega, HR.out⟩
              case measure => simp [intOf]; omega
      · have hw' : isW s[k] = false := by simpa using hw
        have ht : ((s[k].toNat : Int) == 32) = false ∧ ((s[k].toNat : Int) == 9) = false := by
          simp only [isW, Bool.or_eq_true, beq_iff_eq, not_or] at hw
          exact ⟨tF 32 hw.1 (by omega), tF 9 hw.2 (by omega)⟩
        obtain ⟨t1, t2⟩ := ht
        by_cases heq : s[k] = 61
        · have t0 : ((s[k].toNat : Int) == 61) = true := tT 61 heq (by omega)
          have hs1 : decStep (s.data.toList.drop k) = eqF (s.data.toList.drop (k + 1)) := by rw [hne, heq, decStep_eq]
          by_cases hx : ∃ h2 : k + 2 < s.size, hexN s[k + 1] < 16 ∧ hexN s[k + 2] < 16
          · obtain ⟨h2, ha, hb⟩ := hx
            have hs2 : decStep (s.data.toList.drop k) = ([UInt8.ofNat (16 * hexN s[k + 1] + hexN s[k + 2])], 3) := by
              rw [hs1, drop_cons s (k + 1) (by omega), drop_cons s (k + 2) h2]
              simp only [eqF, hex2, if_pos (And.intro ha hb)]
            rw [hs2] at hR
            have HR := hide hR
            have HA := hide (hexI_pos ha)
            have HBB := hide (hexI_pos hb)
            have e1 : (k : Int) + 1 < s.size := by omega
            have e2 : (k : Int) + 2 < s.size := by omega
            obtain ⟨bv, hbv⟩ : ∃ b, b = UInt8.ofNat (16 * hexN s[k + 1] + hexN s[k + 2]) := ⟨_, rfl⟩
            have hby : (bv.toNat : Int) = 16 * (hexN s[k + 1] : Int) + (hexN s[k + 2] : Int) := by rw [hbv, UInt8.toNat_ofNat', Nat.mod_eq_of_lt (by omega)]; omega
            rw [← hbv] at HR
            have HBY := hide hby
            clear hR hs1 hs2 hne heq hw hw' hst1 hst2 hst3 hby hbv
            go_wp2_with fail
            refine (refHex_any _ _).mono ?_
            rintro e w1 ⟨rfl, rfl⟩
            rw [HA.out]
            go_wp2_with fail
            refine (refHex_any _ _).mono ?_
            rintro e w1 ⟨rfl, rfl⟩
            rw [HBB.out]
            go_wp2_with fail
            have q1 : IntKind.i64.wrap ((k : Int) + 1) = (k : Int) + 1 := IntWalk.i64_in _ (by omega)
            have q2 : IntKind.i64.wrap ((k : Int) + 2) = (k : Int) + 2 := IntWalk.i64_in _ (by omega)
            have q3 : IntKind.i64.wrap (16 * (hexN s[k + 1] : Int)) = 16 * (hexN s[k + 1] : Int) := IntWalk.i64_in _ (by omega)
            have q4 : IntKind.i64.wrap (16 * (hexN s[k + 1] : Int) + (hexN s[k + 2] : Int)) = 16 * (hexN s[k + 1] : Int) + (hexN s[k + 2] : Int) := IntWalk.i64_in _ (by omega)
            have q5 : IntKind.u8.wrap (16 * (hexN s[k + 1] : Int) + (hexN s[k + 2] : Int)) = 16 * (hexN s[k + 1] : Int) + (hexN s[k + 2] : Int) := IntWalk.u8_in _ (by omega)
            have n1 : ((k : Int) + 1).toNat = k + 1 := by omega
            have n2 : ((k : Int) + 2).toNat = k + 2 := by omega
            have hA := HA.out
            have hB := HBB.out
            go_region_law (first
              | (refine step_buf_byte rfl _ _ rfl w.heap.size u3 acc rfl w (HB.out.alloc _).drew ⟨wr.heap.size, 0, none⟩ rfl bv ?_ (by omega) ?_
                 · rw [HBY.out]
                   show (wr.alloc _).cell? _ = _
                   rw [World.cell?_alloc_at _ _ _ _ rfl]
                   rfl
                 intro v2 w2 hb2
                 have HB2 := hide hb2
                 clear hb2)
              | (go_simp; go_at_call 20; refine (refHex_any _ _).mono ?_; rintro e wx ⟨rfl, rfl⟩))
            all_goals
              go_wp2_with fail
              go_roundw
              case rel => exact ⟨k + 3, acc ++ _, by omega, by go_num, HB2.out, by simp; omega, HR.out⟩
              case measure => simp [intOf]; omega
          · have hnone : hex2 (s.data.toList.drop (k + 1)) = none := by
              by_cases h2 : k + 2 < s.size
              · rw [drop_cons s (k + 1) (by omega), drop_cons s (k + 2) h2]
                simp only [hex2]
                rw [if_neg (fun h => hx ⟨h2, h⟩)]
              · by_cases h1 : k + 1 < s.size
                · rw [drop_cons s (k + 1) h1, drop_nil s (k + 2) (by omega)]; rfl
                · rw [drop_nil s (k + 1) (by omega)]; rfl
            have hs2 : decStep (s.data.toList.drop k) = if 0 < eolN (s.data.toList.drop (k + 1 + whiteN (s.data.toList.drop (k + 1)))) then ([], 1 + whiteN (s.data.toList.drop (k + 1)) + eolN (s.data.toList.drop (k + 1 + whiteN (s.data.toList.drop (k + 1))))) else ([61], 1) := by
              rw [hs1]; unfold eqF; rw [hnone]; simp only [List.drop_drop]
            have hcase : ¬ k + 2 < s.size ∨ ∃ h2 : k + 2 < s.size, ¬ hexN s[k + 1] < 16 ∨ hexN s[k + 1] < 16 ∧ ¬ hexN s[k + 2] < 16 := by
              by_cases h2 : k + 2 < s.size
              · refine .inr ⟨h2, ?_⟩
                by_cases ha : hexN s[k + 1] < 16
                · exact .inr ⟨ha, fun hb => hx ⟨h2, ha, hb⟩⟩
                · exact .inl ha
              · exact .inl h2
            have hn2 := whiteN_le (s.data.toList.drop (k + 1))
            rw [List.length_drop, toList_length] at hn2
            obtain ⟨n, hN⟩ : ∃ n, n = whiteN (s.data.toList.drop (k + 1)) := ⟨_, rfl⟩
            rw [← hN] at hs2 hn2
            have HN := hide hN
            have hm2 := (eolN_le (s.data.toList.drop (k + 1 + n))).2
            rw [List.length_drop, toList_length] at hm2
            obtain ⟨m, hM⟩ : ∃ m, m = eolN (s.data.toList.drop (k + 1 + n)) := ⟨_, rfl⟩
            rw [← hM] at hs2 hm2
            have HM := hide hM
            rw [hs2] at hR
            have H61 := hide heq
            clear hN hM hs1 hs2 hnone hne heq hw hw' hst1 hst2 hst3 hx
            have hlt' : k + 1 ≤ s.size := hlt
            have ek : (((k + 1 : Nat)) : Int) = (k : Int) + 1 := by omega
            by_cases hm0 : 0 < m
            all_goals
              first | rw [if_pos hm0] at hR | rw [if_neg hm0] at hR
              have HR := hide hR
              clear hR
              rcases hcase with h2 | ⟨h2, ha | ⟨ha, hb⟩⟩
            all_goals
              first
              | (have e2 : ¬ (k : Int) + 2 < s.size := by omega
                 go_wp2_with fail)
              | (have HA := hide (hexI_neg ha)
                 have e2 : (k : Int) + 2 < s.size := by omega
                 have e1 : (k : Int) + 1 < s.size := by omega
                 go_wp2_with fail
                 refine (refHex_any _ _).mono ?_
                 rintro e w1 ⟨rfl, rfl⟩
                 rw [HA.out]
                 go_wp2_with fail)
              | (have HA := hide (hexI_pos ha)
                 have HBB := hide (hexI_neg hb)
                 have e2 : (k : Int) + 2 < s.size := by omega
                 have e1 : (k : Int) + 1 < s.size := by omega
                 go_wp2_with fail
                 refine (refHex_any _ _).mono ?_
                 rintro e w1 ⟨rfl, rfl⟩
                 rw [HA.out]
                 go_wp2_with fail
                 refine (refHex_any _ _).mono ?_
                 rintro e w1 ⟨rfl, rfl⟩
                 rw [HBB.out]
                 go_wp2_with fail)
            all_goals
              refine (blanks_z s (k + 1) _ _ (by omega) hs' hlt').mono ?_
              rintro e w1 ⟨rfl, rfl⟩
              rw [← HN.out]
              go_wp2_with fail
              refine (eol_z s (k + 1 + n) _ _ (by omega) hs (by omega)).mono ?_
              rintro e w1 ⟨rfl, rfl⟩
              rw [← HM.out]
              go_wp2_with (first
                | (refine wpList_buf_byte rfl _ _ rfl w.heap.size u3 acc rfl w wr s[k] HB.out rfl (by omega) ?_; intro v2 w2 hb2; have HB2 := hide hb2; clear hb2)
                | (go_at_call 19; refine (eol_z s (k + 1 + n) _ _ (by omega) hs (by omega)).mono ?_; rintro e w1 ⟨rfl, rfl⟩; rw [← HM.out]))
              go_roundw
            all_goals first
              | case rel => exact ⟨k + (1 + n + m), acc ++ [], by omega, by go_num, by rw [List.append_nil]; exact HB.out, by simp; omega, HR.out⟩
              | case rel => exact ⟨k + 1, acc ++ _, by omega, by go_num, HB2.out, by simp; omega, by rw [H61.out]; exact HR.out⟩
              | case measure => simp [intOf]; omega
        · have t0 : ((s[k].toNat : Int) == 61) = false := tF 61 heq (by omega)
          have hs1 := decStep_plain (s.data.toList.drop (k + 1)) heq hw'
          rw [← hne] at hs1
          rw [hs1] at hR
          have HR := hide hR
          clear hR hs1 hne heq hw hw' hst1 hst2 hst3
          go_wp2_with (refine wpList_buf_byte rfl _ _ rfl w.heap.size u3 acc rfl w wr s[k] HB.out rfl (by omega) ?_; intro v2 w2 hb2; have HB2 := hide hb2; clear hb2)
          go_roundw
          case rel => exact ⟨k + 1, acc ++ _, by omega, by go_num, HB2.out, by simp; omega, HR.out⟩
          case measure => simp [intOf]; omega
    · have hcv := HB.out.convert
      go_wp2
      go_ret
      refine ⟨?_, HB.out.below⟩
      have h := HD.out
      rw [drop_nil s k (by omega), dec_nil, List.append_nil] at h
      exact ret_str (by rw [h])
end Go.Proofs.Ytlllboleinnfiaa
