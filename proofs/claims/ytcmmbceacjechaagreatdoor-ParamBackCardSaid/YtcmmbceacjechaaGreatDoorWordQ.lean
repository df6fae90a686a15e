/- WALK of word.fromQ. No statement is proved here. -/
import Derived.Test.YtcmmbceacjechaaGreatDoorBaseM
namespace Go.Proofs.YtcmmbceacjechaaGreatDoor
open Go.RowKit
set_option linter.unusedVariables false
set_option linter.unusedSimpArgs false

set_option maxRecDepth 100000 in
set_option maxHeartbeats 1000000 in
theorem fromQ_any (s : ByteArray) (w : World) (hs : s.size ≤ 70368744177664) :
    Calls Tryz.prog 231 #[.string s] w fun e w' => e = .returned (.string (str (qdec s.data.toList))) ∧ Below w.heap.size w w' := by
  go_enter Tryz.func231, Tryz.ntmps231
  go_wp2_with (refine wpList_buf_make rfl _ _ rfl w.heap.size w (Below.refl _ _) (Nat.le_refl _) s.size s.size rfl rfl rfl (by omega) ?_; intro v0 w0 hb0)
  go_loopw [3, 4] (fun v i wr => ∃ (k : Nat) (acc : List UInt8), k ≤ s.size ∧ i = .int .i64 k ∧ Buf w.heap.size v acc w wr ∧ acc.length ≤ k ∧ acc ++ qdec (s.data.toList.drop k) = qdec s.data.toList) (fun _ i _ => s.size - (intOf i).toNat)
  case atStart => exact ⟨0, [], Nat.zero_le _, rfl, hb0, Nat.zero_le _, rfl⟩
  case round =>
    obtain ⟨k, acc, hk, rfl, hb, hacc, hd⟩ := hrel
    have HB := hide hb
    clear hb
    by_cases hlt : k < s.size
    · have hne := drop_cons s k hlt
      have hR := qdec_round hd hne
      have hle := qStep_le s[k] (s.data.toList.drop (k + 1))
      rw [List.length_drop, toList_length] at hle
      have hdd : ∀ n, (s.data.toList.drop k).drop n = s.data.toList.drop (k + n) := fun n => by rw [List.drop_drop]
      rcases qStep_cases s[k] (s.data.toList.drop (k + 1)) with ⟨h95, hp⟩ | ⟨h61, b, hx, hp, hl⟩ | ⟨h61, hx, hp⟩ | ⟨h95, h61, hp⟩
      · rw [hp, hdd] at hR
        have HR := hide hR
        have t0 : ((s[k].toNat : Int) == 95) = true := tT 95 h95 (by omega)
        clear hR hp hne hd hle hdd h95
        go_wp2_with (refine wpList_buf_const rfl _ _ rfl w.heap.size u3 acc rfl w wr 32 32 rfl HB.out rfl (by omega) ?_; intro v2 w2 hb2 _; have HB2 := hide hb2; clear hb2)
        go_roundw
        case rel => exact ⟨k + 1, acc ++ [32], by omega, by go_num, HB2.out, by simp; omega, HR.out⟩
        case measure => simp [intOf]; omega
      · rw [hp, hdd] at hR
        rw [hp] at hle
        rw [List.length_drop, toList_length] at hl
        have HR := hide hR
        have t0 : ((s[k].toNat : Int) == 61) = true := tT 61 h61 (by omega)
        have t1 : ((s[k].toNat : Int) == 95) = false := tF 95 (by rw [h61]; decide) (by omega)
        have HV : Hid (fromHexV (s.data.toList.drop (k + 1)) = .tuple #[.int .u8 b.toNat, .bool true]) := by unfold fromHexV; rw [hx]; exact hide rfl
        have HX1 := hide (extract_end s (k + 1))
        have HX := hide (show (s.extract (k + 1) s.size).size ≤ maxLen by rw [ByteArray.size_extract]; unfold maxLen; omega)
        clear hR hp hne hd hle hdd h61 hx
        go_wp2_with fail
        refine (fromHex_any _ _ HX.out).mono ?_
        rintro e w1 ⟨rfl, hb1⟩
        rw [HX1.out, HV.out]
        have HB1 := hide (HB.out.kept hb1)
        go_wp2_with (refine wpList_buf_byte rfl _ _ rfl w.heap.size u3 acc rfl w w1 b HB1.out rfl (by omega) ?_; intro v2 w2 hb2; have HB2 := hide hb2; clear hb2)
        go_roundw
        case rel => exact ⟨k + 3, acc ++ [b], by omega, by go_num, HB2.out, by simp; omega, HR.out⟩
        case measure => simp [intOf]; omega
      · rw [hp, hdd] at hR
        have HR := hide hR
        have t0 : ((s[k].toNat : Int) == 61) = true := tT 61 h61 (by omega)
        have t1 : ((s[k].toNat : Int) == 95) = false := tF 95 (by rw [h61]; decide) (by omega)
        have HV : Hid (fromHexV (s.data.toList.drop (k + 1)) = .tuple #[.int .u8 0, .bool false]) := by unfold fromHexV; rw [hx]; exact hide rfl
        have HX1 := hide (extract_end s (k + 1))
        have HX := hide (show (s.extract (k + 1) s.size).size ≤ maxLen by rw [ByteArray.size_extract]; unfold maxLen; omega)
        have H61 := hide h61
        clear hR hp hne hd hle hdd h61 hx
        go_wp2_with fail
        refine (fromHex_any _ _ HX.out).mono ?_
        rintro e w1 ⟨rfl, hb1⟩
        rw [HX1.out, HV.out]
        have HB1 := hide (HB.out.kept hb1)
        go_wp2_with (refine wpList_buf_byte rfl _ _ rfl w.heap.size u3 acc rfl w w1 s[k] HB1.out rfl (by omega) ?_; intro v2 w2 hb2; have HB2 := hide hb2; clear hb2)
        go_roundw
        case rel => exact ⟨k + 1, acc ++ [s[k]], by omega, by go_num, HB2.out, by simp; omega, HR.out⟩
        case measure => simp [intOf]; omega
      · rw [hp, hdd] at hR
        have HR := hide hR
        have t0 : ((s[k].toNat : Int) == 61) = false := tF 61 h61 (by omega)
        have t1 : ((s[k].toNat : Int) == 95) = false := tF 95 h95 (by omega)
        clear hR hp hne hd hle hdd h61 h95
        go_wp2_with (refine wpList_buf_byte rfl _ _ rfl w.heap.size u3 acc rfl w wr s[k] HB.out rfl (by omega) ?_; intro v2 w2 hb2; have HB2 := hide hb2; clear hb2)
        go_roundw
        case rel => exact ⟨k + 1, acc ++ [s[k]], by omega, by go_num, HB2.out, by simp; omega, HR.out⟩
        case measure => simp [intOf]; omega
    · have hcv := HB.out.convert
      go_wp2
      go_ret
      refine ⟨?_, HB.out.below⟩
      rw [drop_nil s k (by omega), qdec_nil, List.append_nil] at hd
      exact ret_str (by rw [hd])
end Go.Proofs.YtcmmbceacjechaaGreatDoor
