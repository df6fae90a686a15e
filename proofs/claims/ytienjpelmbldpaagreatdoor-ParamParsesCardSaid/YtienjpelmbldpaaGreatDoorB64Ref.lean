/- WALK of the reference's Decode for package b64. No statement is proved here. -/
import Derived.Test.YtienjpelmbldpaaGreatDoorBaseN
namespace Go.Proofs.YtienjpelmbldpaaGreatDoor
open Go.RowKit
set_option linter.unusedVariables false
set_option linter.unusedSimpArgs false

theorem ahead_end (r : List UInt8) : ahead (61 :: r) = [] := rfl
theorem ahead_go {c : UInt8} (r : List UInt8) (h : c ≠ 61) : ahead (c :: r) = c :: ahead r := by simp [ahead, h]
theorem dec_junk {h w : Nat} {c : UInt8} {r R acc : List UInt8} (hv : ¬ val c < 64) (e : acc ++ decFrom h w (c :: r) = R) : acc ++ decFrom h w r = R := by
  have := val_le c
  rw [decFrom, if_pos (by omega)] at e
  exact e
theorem dec_few {N : Nat} {c : UInt8} {r R acc : List UInt8} (hv : val c < 64) (e : acc ++ decFrom 0 (N % 2 ^ 0) (c :: r) = R) : acc ++ decFrom 6 ((N * 64 + val c) % 65536 % 2 ^ 6) r = R := by
  rw [decFrom, if_neg (by omega), if_pos (by omega)] at e
  have h1 : N % 2 ^ 0 * 64 + val c = (N * 64 + val c) % 65536 % 2 ^ 6 := by omega
  rw [h1] at e
  exact e
theorem dec_byte {N h : Nat} {c : UInt8} {r R acc : List UInt8} (hh : h = 0 ∨ h = 2 ∨ h = 4) (hv : val c < 64) (e : acc ++ decFrom (h + 2) (N % 2 ^ (h + 2)) (c :: r) = R) :
    (acc ++ [UInt8.ofNat ((N * 64 + val c) % 65536 / 2 ^ h)]) ++ decFrom h ((N * 64 + val c) % 65536 % 2 ^ h) r = R := by
  rw [decFrom, if_neg (by omega), if_neg (by omega), Nat.add_sub_cancel] at e
  have h1 : (N % 2 ^ (h + 2) * 64 + val c) % 2 ^ h = (N * 64 + val c) % 65536 % 2 ^ h := by
    rcases hh with rfl | rfl | rfl <;> omega
  have h2 : UInt8.ofNat ((N % 2 ^ (h + 2) * 64 + val c) / 2 ^ h) = UInt8.ofNat ((N * 64 + val c) % 65536 / 2 ^ h) := by
    apply UInt8.toNat_inj.1
    rw [UInt8.toNat_ofNat', UInt8.toNat_ofNat']
    rcases hh with rfl | rfl | rfl <;> omega
  rw [h1, h2] at e
  rw [← e]; simp
theorem byte_wrap (M : Nat) : ((UInt8.ofNat M).toNat : Int) = (M : Int) % 256 := by rw [UInt8.toNat_ofNat']; omega

theorem placeI_yes {c : UInt8} (h : val c < 64) : placeI c = val c := by simp [placeI, h]
theorem placeI_no {c : UInt8} (h : ¬ val c < 64) : placeI c = -1 := by simp [placeI, h]

set_option maxRecDepth 100000 in
set_option maxHeartbeats 2000000 in
theorem ref64Decode_any (s : ByteArray) (w : World) (hs : s.size ≤ 1048576) :
    Calls Tryz.prog 107 #[.string s] w fun e w' => e = .returned (.string (str (decB s.data.toList))) ∧ Below w.heap.size w w' := by
  go_enter Tryz.func107, Tryz.ntmps107
  go_wp2
  go_loopw [3, 4, 5, 6] (fun v n b i wr => ∃ (k N h : Nat) (acc : List UInt8), k ≤ s.size ∧ i = .int .i64 k ∧ n = .int .i64 N ∧ N < 65536 ∧
      (b = .int .i64 0 ∧ h = 0 ∨ b = .int .i64 2 ∧ h = 2 ∨ b = .int .i64 4 ∧ h = 4 ∨ b = .int .i64 6 ∧ h = 6) ∧
      Buf w.heap.size v acc w wr ∧ acc.length ≤ k ∧ acc ++ decFrom h (N % 2 ^ h) (ahead (s.data.toList.drop k)) = decB s.data.toList) (fun _ _ _ i _ => s.size - (intOf i).toNat)
  case atStart => exact ⟨0, 0, 0, [], Nat.zero_le _, rfl, rfl, by omega, .inl ⟨rfl, rfl⟩, Buf.nil (Below.refl _ _) (Nat.le_refl _), Nat.le_refl _, rfl⟩
  case round =>
    obtain ⟨k, N, h, acc, hk, rfl, rfl, hN, hbh, hbf, hl, hR⟩ := hrel
    obtain ⟨A, cc, rfl⟩ := hbf.slice_len
    have HB := hide hbf
    clear hbf
    by_cases hlt : k < s.size
    · rw [drop_cons s k hlt] at hR
      by_cases h61 : s[k] = 61
      · have t0 : ((s[k].toNat : Int) != 61) = false := by rw [bne, show ((s[k].toNat : Int) == 61) = true from tT 61 h61 (by omega)]; rfl
        rw [h61, ahead_end, decFrom, List.append_nil] at hR
        have HR := hide hR
        have hcv := HB.out.convert
        clear hR h61 hbh
        go_wp2
        go_ret
        exact ⟨ret_str (by rw [HR.out]), HB.out.below⟩
      · have t0 : ((s[k].toNat : Int) != 61) = true := by rw [bne, show ((s[k].toNat : Int) == 61) = false from tF 61 h61 (by omega)]; rfl
        rw [ahead_go _ h61] at hR
        clear h61
        by_cases hv : val s[k] < 64
        · have HP := hide (placeI_yes hv)
          obtain ⟨p, hp⟩ : ∃ p, p = val s[k] := ⟨_, rfl⟩
          obtain ⟨M, hM⟩ : ∃ M, M = (N * 64 + p) % 65536 := ⟨_, rfl⟩
          have hM2 : M < 65536 := by rw [hM]; omega
          have hMI : ((N : Int) * 64 + p) % 65536 = M := by omega
          rcases hbh with ⟨rfl, rfl⟩ | ⟨rfl, rfl⟩ | ⟨rfl, rfl⟩ | ⟨rfl, rfl⟩
          · have hR := dec_few hv hR
            rw [← hp] at hR HP hv
            rw [← hM] at hR
            have HR := hide hR
            have HMI := hide hMI
            clear hR hp hM
            go_wp2_with fail
            refine (place_any _ _).mono ?_
            rintro e w1 ⟨rfl, rfl⟩
            rw [HP.out]
            go_wp2_with fail
            try rw [HMI.out]
            go_roundw
            case rel => exact ⟨k + 1, M, 6, acc, by omega, by go_num, rfl, hM2, by simp, HB.out, by omega, HR.out⟩
            case measure => simp [intOf]; omega
          · have hR := dec_byte (h := 0) (by simp) hv hR
            rw [← hp] at hR HP hv
            rw [← hM] at hR
            obtain ⟨bv, hbv⟩ : ∃ b, b = UInt8.ofNat (M / 2 ^ 0) := ⟨_, rfl⟩
            rw [← hbv] at hR
            have hby : (bv.toNat : Int) = (M : Int) % 256 := by rw [hbv, byte_wrap]; omega
            have HR := hide hR
            have HMI := hide hMI
            have HBY := hide hby
            clear hR hp hM hby hbv
            go_wp2_with fail
            refine (place_any _ _).mono ?_
            rintro e w1 ⟨rfl, rfl⟩
            rw [HP.out]
            go_wp2_with (rw [← HBY.out]; refine wpList_buf_byte rfl _ _ rfl w.heap.size (.slice A acc.length cc) acc rfl w wr bv HB.out rfl (by omega) ?_; intro v2 w2 hb2; have HB2 := hide hb2; clear hb2)
            try rw [HMI.out]
            go_roundw
            case rel => exact ⟨k + 1, M, 0, acc ++ [bv], by omega, by go_num, rfl, hM2, by simp, HB2.out, by simp; omega, HR.out⟩
            case measure => simp [intOf]; omega
          · have hR := dec_byte (h := 2) (by simp) hv hR
            rw [← hp] at hR HP hv
            rw [← hM] at hR
            obtain ⟨bv, hbv⟩ : ∃ b, b = UInt8.ofNat (M / 2 ^ 2) := ⟨_, rfl⟩
            rw [← hbv] at hR
            have hby : (bv.toNat : Int) = (M : Int) / 4 % 256 := by rw [hbv, byte_wrap]; omega
            have HR := hide hR
            have HMI := hide hMI
            have HBY := hide hby
            clear hR hp hM hby hbv
            go_wp2_with fail
            refine (place_any _ _).mono ?_
            rintro e w1 ⟨rfl, rfl⟩
            rw [HP.out]
            go_wp2_with (rw [← HBY.out]; refine wpList_buf_byte rfl _ _ rfl w.heap.size (.slice A acc.length cc) acc rfl w wr bv HB.out rfl (by omega) ?_; intro v2 w2 hb2; have HB2 := hide hb2; clear hb2)
            try rw [HMI.out]
            go_roundw
            case rel => exact ⟨k + 1, M, 2, acc ++ [bv], by omega, by go_num, rfl, hM2, by simp, HB2.out, by simp; omega, HR.out⟩
            case measure => simp [intOf]; omega
          · have hR := dec_byte (h := 4) (by simp) hv hR
            rw [← hp] at hR HP hv
            rw [← hM] at hR
            obtain ⟨bv, hbv⟩ : ∃ b, b = UInt8.ofNat (M / 2 ^ 4) := ⟨_, rfl⟩
            rw [← hbv] at hR
            have hby : (bv.toNat : Int) = (M : Int) / 16 % 256 := by rw [hbv, byte_wrap]; omega
            have HR := hide hR
            have HMI := hide hMI
            have HBY := hide hby
            clear hR hp hM hby hbv
            go_wp2_with fail
            refine (place_any _ _).mono ?_
            rintro e w1 ⟨rfl, rfl⟩
            rw [HP.out]
            go_wp2_with (rw [← HBY.out]; refine wpList_buf_byte rfl _ _ rfl w.heap.size (.slice A acc.length cc) acc rfl w wr bv HB.out rfl (by omega) ?_; intro v2 w2 hb2; have HB2 := hide hb2; clear hb2)
            try rw [HMI.out]
            go_roundw
            case rel => exact ⟨k + 1, M, 4, acc ++ [bv], by omega, by go_num, rfl, hM2, by simp, HB2.out, by simp; omega, HR.out⟩
            case measure => simp [intOf]; omega
        · have HP := hide (placeI_no hv)
          have HR := hide (dec_junk hv hR)
          clear hR hv
          go_wp2_with fail
          refine (place_any _ _).mono ?_
          rintro e w1 ⟨rfl, rfl⟩
          rw [HP.out]
          go_wp2_with fail
          go_roundw
          case rel => exact ⟨k + 1, N, h, acc, by omega, by go_num, rfl, hN, hbh, HB.out, by omega, HR.out⟩
          case measure => simp [intOf]; omega
    · have hcv := HB.out.convert
      rw [drop_nil s k (by omega), show ahead [] = [] from rfl, decFrom, List.append_nil] at hR
      have HR := hide hR
      clear hR hbh
      go_wp2
      go_ret
      exact ⟨ret_str (by rw [HR.out]), HB.out.below⟩
end Go.Proofs.YtienjpelmbldpaaGreatDoor
