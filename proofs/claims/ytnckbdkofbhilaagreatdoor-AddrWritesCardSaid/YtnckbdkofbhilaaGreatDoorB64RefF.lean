/- WALK of the reference's Encode for package b64. No statement is proved here. -/
import Derived.Test.YtnckbdkofbhilaaGreatDoorB64RefE
namespace Go.Proofs.YtnckbdkofbhilaaGreatDoor
open Go.RowKit
set_option linter.unusedVariables false
set_option maxRecDepth 100000
set_option linter.unusedSimpArgs false

set_option maxRecDepth 100000 in
set_option maxHeartbeats 2000000 in
theorem ref64Encode_any (s : ByteArray) (w : World) (hs : s.size ≤ 100000) :
    Calls Tryz.prog 83 #[.string s] w fun e w' => e = .returned (.string (str (encB s.data.toList))) ∧ Below w.heap.size w w' := by
  have hz8 : s.data.toList.length = s.size := toList_length s
  obtain ⟨F, hF⟩ : ∃ F, F = refFrom s.data.toList 0 := ⟨_, rfl⟩
  have hFE := ref_enc s.data.toList
  rw [← hF] at hFE
  have HF := hide hF
  have HFE := hide hFE
  clear hF hFE hz8
  go_enter Tryz.func83, Tryz.ntmps83
  go_wp2
  go_loopw [3, 4] (fun v i wr => ∃ (k : Nat) (acc : List UInt8), k ≤ 8 * s.size + 6 ∧ i = .int .i64 k ∧ Buf w.heap.size v acc w wr ∧ acc.length ≤ k ∧ acc ++ refFrom s.data.toList k = F) (fun _ i _ => 8 * s.size + 6 - (intOf i).toNat)
  case atStart => exact ⟨0, [], Nat.zero_le _, rfl, Buf.nil (Below.refl _ _) (Nat.le_refl _), Nat.le_refl _, by rw [HF.out]; rfl⟩
  case round =>
    obtain ⟨k, acc, hk, rfl, hbf, hl, hR⟩ := hrel
    obtain ⟨A, cc, rfl⟩ := hbf.slice_len
    have HB := hide hbf
    clear hbf
    by_cases hlt : k < 8 * s.size
    · have hlt' : (k : Int) < 8 * (s.size : Int) := by omega
      have hR := hR
      rw [refFrom_go (by rw [toList_length]; exact hlt)] at hR
      obtain ⟨p, hp⟩ : ∃ p, p = pre s.data.toList k 6 := ⟨_, rfl⟩
      have hp6 := pre_lt s.data.toList k 6
      rw [← hp] at hR hp6
      have HP := hide hp
      have HR := hide hR
      clear hR hp
      go_wp2
      go_loop [5, 6] (fun n j => ∃ m : Nat, m ≤ 6 ∧ j = .int .i64 m ∧ n = .int .i64 (pre s.data.toList k m : Nat)) (fun _ j => 6 - (intOf j).toNat)
      case atStart => exact ⟨0, by omega, rfl, rfl⟩
      case round =>
        obtain ⟨m, hm, rfl, rfl⟩ := hrel
        by_cases hm6 : m < 6
        · have hpm := pre_lt s.data.toList k m
          have h26 : 2 ^ m ≤ 2 ^ 6 := Nat.pow_le_pow_right (by omega) hm
          have hpm' : pre s.data.toList k m < 64 := by omega
          have hbl := bitAt_lt s.data.toList (k + m)
          have HN := hide (show pre s.data.toList k (m + 1) = 2 * pre s.data.toList k m + bitAt s.data.toList (k + m) from rfl)
          generalize pre s.data.toList k m = x at *
          have HBIT := bit_any s (k + m) wr (by omega) (by omega)
          generalize bitAt s.data.toList (k + m) = z at *
          have ek : (((k + m : Nat)) : Int) = (k : Int) + m := by omega
          rw [ek] at HBIT
          clear h26 hpm
          go_wp2_with fail
          refine HBIT.mono ?_
          rintro e w1 ⟨rfl, rfl⟩
          go_wp2_with fail
          go_round
          case rel => exact ⟨m + 1, by omega, by go_num, by rw [HN.out]; go_num⟩
          case measure => simp [intOf]; omega
        · have hm7 : m = 6 := by omega
          subst hm7
          rw [← HP.out, show (((6 : Nat)) : Int) = 6 from rfl]
          have hp64 : p < 64 := hp6
          have hi := letter_at p hp64
          have hp' : (p : Int) < 64 := by omega
          obtain ⟨c, hcc⟩ : ∃ c, c = letter p := ⟨_, rfl⟩
          rw [← hcc] at hi HR
          clear hcc hR hm
          go_wp2_with (refine wpList_buf_byte rfl _ _ rfl w.heap.size (.slice A acc.length cc) acc rfl w wr c HB.out rfl (by omega) ?_; intro v2 w2 hb2; have HB2 := hide hb2; clear hb2)
          go_roundw
          case rel => exact ⟨k + 6, acc ++ [c], by omega, by go_num, HB2.out, by simp; omega, by rw [← HR.out]; simp⟩
          case measure => simp [intOf]; omega
    · have hlt' : ¬ (k : Int) < 8 * (s.size : Int) := by omega
      rw [refFrom_end (by rw [toList_length]; exact hlt), List.append_nil] at hR
      subst hR
      clear HF hlt
      go_wp2
      go_loopw [3] (fun v wr => ∃ l : List UInt8, Buf w.heap.size v l w wr ∧ l ++ List.replicate (padN l.length) 61 = encB s.data.toList ∧ l.length ≤ acc.length + 4 - padN l.length) (fun v _ => match v with | .slice _ n _ => padN n | _ => 0)
      case atStart => exact ⟨acc, HB.out, HFE.out, (by unfold padN; omega)⟩
      case round =>
        obtain ⟨l, hbf, hfin, hll⟩ := hrel
        obtain ⟨A2, c2, rfl⟩ := hbf.slice_len
        have HBF := hide hbf
        have HFI := hide hfin
        clear hbf hfin
        by_cases h0 : l.length % 4 = 0
        · have t : (((l.length : Int) % 4) != 0) = false := by simp; omega
          have H0 := hide h0
          have hcv := HBF.out.convert
          clear h0
          go_wp2_with fail
          go_ret
          refine ⟨ret_str ?_, HBF.out.below⟩
          have := HFI.out
          rw [show padN l.length = 0 by unfold padN; rw [H0.out]] at this
          simp at this
          rw [this]
        · have t : (((l.length : Int) % 4) != 0) = true := by simp; omega
          have H0 := hide h0
          clear h0
          go_wp2_with (refine wpList_buf_byte rfl _ _ rfl w.heap.size (.slice A2 l.length c2) l rfl w _ 61 HBF.out rfl (by omega) ?_; intro v2 w2 hb2; obtain ⟨A3, c3, rfl⟩ := hb2.slice_len; have HB2 := hide hb2; clear hb2)
          go_roundw
          case rel =>
            have hp : padN l.length = padN (l.length + 1) + 1 := by have := H0.out; unfold padN; omega
            have hp3 : padN (l.length + 1) ≤ 3 := by unfold padN; omega
            have hB2 := HB2.out
            rw [show (l ++ [(61 : UInt8)]).length = l.length + 1 by simp] at hB2
            refine ⟨l ++ [61], hB2, ?_, ?_⟩
            · rw [← HFI.out, List.length_append, hp, List.replicate_succ]; simp
            · simp; omega
          case measure =>
            have hp : padN l.length = padN (l.length + 1) + 1 := by have := H0.out; unfold padN; omega
            simp
            omega
end Go.Proofs.YtnckbdkofbhilaaGreatDoor
