/- WALK of the reference's Clean of layer 16. No statement is proved here. Own work of the verifier. -/
import Derived.Test.YtklbdobofclofaaGreatDoorBaseN
namespace Go.Proofs.YtklbdobofclofaaGreatDoor
open Go.RowKit
set_option linter.unusedVariables false
set_option linter.unusedSimpArgs false
set_option maxRecDepth 100000
theorem dropW_cons (c : UInt8) (l : List UInt8) : (c :: l).dropWhile wB = if wB c then l.dropWhile wB else c :: l := by rw [List.dropWhile_cons]
theorem snocW (u : ByteArray) (n : Nat) (hn : u.size = n + 1) : u.data.toList = (u.extract 0 n).data.toList ++ [u[n]'(by omega)] := by
  rw [extract_list, List.drop_zero, ← take_snoc u n (by omega), List.take_of_length_le (by rw [toList_length]; omega)]
def szW : Value → Nat
  | .string t => t.size
  | _ => 0
theorem keep_cons (c : UInt8) (l : List UInt8) : keepL (c :: l) = if tagB c = true then keepL l else c :: keepL l := by
  unfold keepL
  rw [List.filter_cons]
  cases tagB c <;> rfl
theorem tag_tests (c : UInt8) : (c = 9 ∧ tagB c = true) ∨ (c ≠ 9 ∧ c = 10 ∧ tagB c = true) ∨ (c ≠ 9 ∧ c ≠ 10 ∧ c = 13 ∧ tagB c = true) ∨ (c ≠ 9 ∧ c ≠ 10 ∧ c ≠ 13 ∧ tagB c = false) :=
  u8_all (p := fun c => (c = 9 ∧ tagB c = true) ∨ (c ≠ 9 ∧ c = 10 ∧ tagB c = true) ∨ (c ≠ 9 ∧ c ≠ 10 ∧ c = 13 ∧ tagB c = true) ∨ (c ≠ 9 ∧ c ≠ 10 ∧ c ≠ 13 ∧ tagB c = false)) (by decide +kernel) c
set_option maxHeartbeats 2000000 in
theorem ref16Clean_any (s : ByteArray) (w : World) (hs : s.size ≤ 1048576) :
    Calls Tryz.prog 25 #[.string s] w fun e w' => e = .returned (.string (str (lkClean s.data.toList))) ∧ Below w.heap.size w w' := by
  go_enter Tryz.func25, Tryz.ntmps25
  go_wp2_with fail
  go_loop [0] (fun x => ∃ t : ByteArray, x = .string t ∧ t.size ≤ s.size ∧ Hid (t.data.toList.dropWhile wB = s.data.toList.dropWhile wB)) (fun x => szW x)
  case atStart => exact ⟨s, rfl, Nat.le_refl _, rfl⟩
  case round =>
    obtain ⟨t, rfl, ht, HD⟩ := hrel
    by_cases hgo : ∃ h0 : 0 < t.size, t[0].toNat ≤ 32
    · obtain ⟨h0, h32⟩ := hgo
      have e := drop_cons t 0 h0
      rw [List.drop_zero] at e
      have HD2 : Hid ((t.extract 1 t.size).data.toList.dropWhile wB = s.data.toList.dropWhile wB) := hide (by
        rw [extract_end, ← HD.out]
        conv => rhs; rw [e, dropW_cons, if_pos (by simp [wB, h32])])
      have t1 : decide ((0 : Int) < (t.size : Int)) = true := decide_eq_true (by omega)
      have t2 : decide ((t[0].toNat : Int) ≤ 32) = true := decide_eq_true (by omega)
      clear e
      go_wp2_with fail
      go_round
      case rel => exact ⟨t.extract 1 t.size, rfl, by rw [ByteArray.size_extract]; omega, HD2⟩
      case measure => simp [szW]; omega
    · have HLT : Hid (t.data.toList = s.data.toList.dropWhile wB) := hide (by
        rw [← HD.out]
        by_cases h0 : 0 < t.size
        · have e := drop_cons t 0 h0
          rw [List.drop_zero] at e
          rw [e, dropW_cons, if_neg]
          simp only [wB, decide_eq_true_eq]
          exact fun h => hgo ⟨h0, h⟩
        · have e : t.data.toList = [] := List.eq_nil_of_length_eq_zero (by rw [toList_length]; omega)
          rw [e]; rfl)
      have hcase : (∃ h0 : 0 < t.size, ¬ t[0].toNat ≤ 32) ∨ t.size = 0 := by
        by_cases h0 : 0 < t.size
        · exact .inl ⟨h0, fun h => hgo ⟨h0, h⟩⟩
        · exact .inr (by omega)
      clear hgo
      have hcase2 : (∃ h0 : 0 < t.size, ¬ t[0].toNat ≤ 32) ∨ t.size ≤ 0 := hcase.imp id (fun e => Nat.le_of_eq e)
      clear hcase
      have HB0 : Hid (Buf w.heap.size (.slice none 0 0) [] w w) := hide (Buf.nil (Below.refl _ _) (Nat.le_refl _))
      rcases hcase2 with ⟨h0, h⟩ | h
      all_goals
        first
          | (have t1 : decide ((0 : Int) < (t.size : Int)) = true := decide_eq_true (by omega)
             have t2 : decide ((t[0].toNat : Int) ≤ 32) = false := decide_eq_false (by omega)
             go_wp2_with fail
             clear t1 t2)
          | (have t1 : decide ((0 : Int) < (t.size : Int)) = false := decide_eq_false (by omega)
             go_wp2_with fail
             clear t1)
        clear h
        go_loop [0] (fun x => ∃ u : ByteArray, x = .string u ∧ u.size ≤ s.size ∧ Hid (trimR u.data.toList = trimW s.data.toList)) (fun x => szW x)
        case atStart => exact ⟨t, rfl, ht, hide (by unfold trimW; rw [← HLT.out])⟩
        case round =>
          obtain ⟨u, rfl, hu, HR⟩ := hrel
          by_cases hgo : ∃ (n : Nat) (hn : u.size = n + 1), (u[n]'(by omega)).toNat ≤ 32
          · obtain ⟨n, hn, hsp⟩ := hgo
            have hn' : n < u.size := by omega
            have e := snocW u n hn
            have HR2 : Hid (trimR (u.extract 0 n).data.toList = trimW s.data.toList) := hide (by
              rw [← HR.out, e, trimR_snoc_w _ _ (decide_eq_true hsp)])
            have hz : (u.size : Int) - 1 = n := by omega
            have t1 : decide ((0 : Int) < (u.size : Int)) = true := decide_eq_true (by omega)
            have t2 : decide ((u[n].toNat : Int) ≤ 32) = true := decide_eq_true (by omega)
            have hn0 : n ≤ u.size := by omega
            have hsp2 : (u[n]'hn').toNat ≤ 32 := hsp
            clear e hsp hn
            go_wp2_with fail
            go_round
            case rel => exact ⟨u.extract 0 n, rfl, by rw [ByteArray.size_extract]; omega, HR2⟩
            case measure => simp [szW]; omega
          · have HU : Hid (u.data.toList = trimW s.data.toList) := hide (by
              rw [← HR.out]
              rcases Nat.eq_zero_or_pos u.size with h0 | h0
              · have e : u.data.toList = [] := List.eq_nil_of_length_eq_zero (by rw [toList_length]; exact h0)
                rw [e]; rfl
              · obtain ⟨n, hn⟩ : ∃ n, u.size = n + 1 := ⟨u.size - 1, by omega⟩
                rw [snocW u n hn, trimR_snoc_n]
                exact decide_eq_false (fun h => hgo ⟨n, hn, h⟩))
            have hcase3 : (∃ (n : Nat) (hn : n < u.size), (u.size : Int) - 1 = n ∧ ¬ (u[n]'hn).toNat ≤ 32) ∨ u.size ≤ 0 := by
              rcases Nat.eq_zero_or_pos u.size with h0 | h0
              · exact .inr (by omega)
              · exact .inl ⟨u.size - 1, by omega, by omega, fun h => hgo ⟨u.size - 1, by omega, h⟩⟩
            clear hgo
            rcases hcase3 with ⟨n, hn', hz, h⟩ | h
            all_goals
              first
                | (have t1 : decide ((0 : Int) < (u.size : Int)) = true := decide_eq_true (by omega)
                   have t2 : decide ((u[n].toNat : Int) ≤ 32) = false := decide_eq_false (by omega)
                   go_wp2_with fail
                   clear t1 t2 hz)
                | (have t1 : decide ((0 : Int) < (u.size : Int)) = false := decide_eq_false (by omega)
                   go_wp2_with fail
                   clear t1)
              clear h
              have HT : Hid (str (lkClean s.data.toList) = str (keepL u.data.toList)) := hide (by rw [HU.out]; rfl)
              go_loopw [3, 4] (fun v i wr => ∃ (k : Nat) (acc : List UInt8), k ≤ u.size ∧ i = .int .i64 k ∧ Hid (Buf w.heap.size v acc w wr) ∧ acc.length ≤ k ∧ Hid (acc ++ keepL (u.data.toList.drop k) = keepL u.data.toList)) (fun _ i _ => u.size - (intOf i).toNat)
              case atStart => exact ⟨0, [], Nat.zero_le _, rfl, HB0, Nat.le_refl _, hide (by simp)⟩
              case round =>
                obtain ⟨k, acc, hk, rfl, HB, hacc, HK⟩ := hrel
                by_cases hlt : k < u.size
                · first | (exfalso; omega) | skip
                  all_goals
                    have hdc := keep_cons u[k] (u.data.toList.drop (k + 1))
                    rw [← drop_cons u k hlt] at hdc
                    have HK' := HK.out
                    rcases tag_tests u[k] with ⟨c1, c2⟩ | ⟨c0, c1, c2⟩ | ⟨c0, c00, c1, c2⟩ | ⟨c0, c00, c1, c2⟩
                    · rw [hdc, if_pos c2] at HK'
                      have HK2 := hide HK'
                      have s1 : ((u[k].toNat : Int) == 9) = true := tT 9 c1 (by omega)
                      have s2 : ((u[k].toNat : Int) != 9) = false := by rw [bne, s1]; rfl
                      clear hdc HK' c1 c2
                      go_wp2_with fail
                      go_roundw
                      case rel => exact ⟨k + 1, acc, by omega, by go_num, HB, by omega, HK2⟩
                      case measure => simp [intOf]; omega
                    · rw [hdc, if_pos c2] at HK'
                      have HK2 := hide HK'
                      have s1 : ((u[k].toNat : Int) == 9) = false := tF 9 c0 (by omega)
                      have s2 : ((u[k].toNat : Int) != 9) = true := by rw [bne, s1]; rfl
                      have s3 : ((u[k].toNat : Int) == 10) = true := tT 10 c1 (by omega)
                      have s4 : ((u[k].toNat : Int) != 10) = false := by rw [bne, s3]; rfl
                      clear hdc HK' c0 c1 c2
                      go_wp2_with fail
                      go_roundw
                      case rel => exact ⟨k + 1, acc, by omega, by go_num, HB, by omega, HK2⟩
                      case measure => simp [intOf]; omega
                    · rw [hdc, if_pos c2] at HK'
                      have HK2 := hide HK'
                      have s1 : ((u[k].toNat : Int) == 9) = false := tF 9 c0 (by omega)
                      have s2 : ((u[k].toNat : Int) != 9) = true := by rw [bne, s1]; rfl
                      have s3 : ((u[k].toNat : Int) == 10) = false := tF 10 c00 (by omega)
                      have s4 : ((u[k].toNat : Int) != 10) = true := by rw [bne, s3]; rfl
                      have s5 : ((u[k].toNat : Int) == 13) = true := tT 13 c1 (by omega)
                      have s6 : ((u[k].toNat : Int) != 13) = false := by rw [bne, s5]; rfl
                      clear hdc HK' c0 c00 c1 c2
                      go_wp2_with fail
                      go_roundw
                      case rel => exact ⟨k + 1, acc, by omega, by go_num, HB, by omega, HK2⟩
                      case measure => simp [intOf]; omega
                    · rw [hdc, if_neg (by rw [c2]; decide)] at HK'
                      have HK2 : Hid ((acc ++ [u[k]]) ++ keepL (u.data.toList.drop (k + 1)) = keepL u.data.toList) := hide (by rw [← HK']; simp)
                      have s1 : ((u[k].toNat : Int) == 9) = false := tF 9 c0 (by omega)
                      have s2 : ((u[k].toNat : Int) != 9) = true := by rw [bne, s1]; rfl
                      have s3 : ((u[k].toNat : Int) == 10) = false := tF 10 c00 (by omega)
                      have s4 : ((u[k].toNat : Int) != 10) = true := by rw [bne, s3]; rfl
                      have s5 : ((u[k].toNat : Int) == 13) = false := tF 13 c1 (by omega)
                      have s6 : ((u[k].toNat : Int) != 13) = true := by rw [bne, s5]; rfl
                      clear hdc HK' c0 c00 c1 c2
                      go_wp2_with (refine wpList_buf_byte rfl _ _ rfl w.heap.size u3 acc rfl w wr u[k] HB.out rfl (by omega) ?_; intro v2 w2 hb2; have HB2 := hide hb2; clear hb2)
                      go_roundw
                      case rel => exact ⟨k + 1, acc ++ [u[k]], by omega, by go_num, HB2, by simp; omega, HK2⟩
                      case measure => simp [intOf]; omega
                · have hcv := HB.out.convert
                  have HK' := HK.out
                  rw [drop_nil u k (by omega)] at HK'
                  have HE : Hid (acc = keepL u.data.toList) := hide (by rw [← HK']; simp [keepL])
                  clear HK'
                  go_wp2
                  go_ret
                  exact ⟨ret_str (by rw [HT.out, HE.out]), HB.out.below⟩
end Go.Proofs.YtklbdobofclofaaGreatDoor
