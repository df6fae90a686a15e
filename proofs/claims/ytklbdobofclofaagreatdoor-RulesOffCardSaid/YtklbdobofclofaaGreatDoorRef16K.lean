/- WALKS of the reference's Scheme and Kind of layer 16. No statement is proved here. Own work of the verifier. -/
import Derived.Test.YtklbdobofclofaaGreatDoorRef16C
import Derived.Test.YtklbdobofclofaaGreatDoorLinkK
namespace Go.Proofs.YtklbdobofclofaaGreatDoor
open Go.RowKit
set_option linter.unusedVariables false
set_option linter.unusedSimpArgs false
set_option maxRecDepth 100000
theorem schV_no {l : List UInt8} (h : schL l = none) : schV l = .tuple #[.string ⟨#[]⟩, .bool false] := by unfold schV; rw [h]
theorem schV_yes {l n b : List UInt8} (h : schL l = some (n, b)) : schV l = .tuple #[.string (str n), .bool true] := by unfold schV; rw [h]
theorem sch_case (c : UInt8) : (letterB c = true ∧ schB c = true) ∨ (letterB c = false ∧ digitB c = true ∧ schB c = true) ∨ (letterB c = false ∧ digitB c = false ∧ c = 43 ∧ schB c = true) ∨ (letterB c = false ∧ digitB c = false ∧ c ≠ 43 ∧ c = 45 ∧ schB c = true) ∨
    (letterB c = false ∧ digitB c = false ∧ c ≠ 43 ∧ c ≠ 45 ∧ c = 46 ∧ schB c = true) ∨ (letterB c = false ∧ digitB c = false ∧ c ≠ 43 ∧ c ≠ 45 ∧ c ≠ 46 ∧ schB c = false) :=
  u8_all (p := fun c => (letterB c = true ∧ schB c = true) ∨ (letterB c = false ∧ digitB c = true ∧ schB c = true) ∨ (letterB c = false ∧ digitB c = false ∧ c = 43 ∧ schB c = true) ∨ (letterB c = false ∧ digitB c = false ∧ c ≠ 43 ∧ c = 45 ∧ schB c = true) ∨
    (letterB c = false ∧ digitB c = false ∧ c ≠ 43 ∧ c ≠ 45 ∧ c = 46 ∧ schB c = true) ∨ (letterB c = false ∧ digitB c = false ∧ c ≠ 43 ∧ c ≠ 45 ∧ c ≠ 46 ∧ schB c = false)) (by decide +kernel) c
set_option maxHeartbeats 4000000 in
theorem ref16Scheme_any (s : ByteArray) (w : World) (hs : s.size ≤ 1048576) :
    Calls Tryz.prog 39 #[.string s] w fun e w' => e = .returned (schV (lkClean s.data.toList)) ∧ Below w.heap.size w w' := by
  obtain ⟨C, hC⟩ : ∃ C, C = str (lkClean s.data.toList) := ⟨_, rfl⟩
  have hCs : C.size ≤ 1048576 := by rw [hC]; exact Nat.le_trans (clean_size s) hs
  have HV : Hid (schV (lkClean s.data.toList) = schV C.data.toList) := hide (by rw [hC, str_toList])
  have HC := hide hC
  clear hC
  go_enter Tryz.func39, Tryz.ntmps39
  go_wp2_with fail
  refine (ref16Clean_any s _ hs).mono ?_
  rintro e w1 ⟨rfl, hb1⟩
  rw [← HC.out]
  have HB := hide hb1
  clear hb1
  go_wp2_with fail
  go_loop [5] (fun i => ∃ k : Nat, k ≤ C.size ∧ i = .int .i64 k ∧ Hid (∀ x ∈ C.data.toList.take k, schB x = true) ∧ Hid (0 < k → headOK C.data.toList = true)) (fun i => C.size - (intOf i).toNat)
  case atStart => exact ⟨0, Nat.zero_le _, rfl, hide (fun x hx => by simp at hx), hide (fun h => absurd h (by omega))⟩
  case round =>
    obtain ⟨k, hk, rfl, HA, HH⟩ := hrel
    by_cases hlt : k < C.size
    · have hsplit := take_drop_at C k hlt
      have hdr := drop_cons C k hlt
      have hnext : schB C[k] = true → ∀ x ∈ C.data.toList.take (k + 1), schB x = true := by
        intro h x hx
        rw [take_snoc C k hlt] at hx
        rcases List.mem_append.1 hx with hx | hx
        · exact HA.out x hx
        · rw [List.mem_singleton.1 hx]; exact h
      have hHN := HH.out
      by_cases h58 : C[k] = 58
      · have t58 : ((C[k].toNat : Int) == 58) = true := tT 58 h58 (by omega)
        have HX : Hid ((C.extract 0 k).size ≤ 70368744177664) := hide (by have := extract_size_le C 0 k; omega)
        have e1 : (C.extract 0 k).data.toList = C.data.toList.take k := by rw [extract_list, List.drop_zero]
        have HE1 := hide e1
        rcases Nat.eq_zero_or_pos k with h0 | h0
        · have HN : Hid (schV C.data.toList = .tuple #[.string (str (lowL (C.data.toList.take k))), .bool false]) := hide (by
            have e : C.data.toList = C[k] :: C.data.toList.drop (k + 1) := by rw [← hdr, h0, List.drop_zero]
            rw [schV_no (by rw [e]; exact schL_head (by rw [h58]; decide)), h0]; rfl)
          have tk : decide ((0 : Int) < ((k : Nat) : Int)) = false := decide_eq_false (by omega)
          have hk0 : ¬ 0 < k := by omega
          clear hsplit hdr hnext hHN h58 h0 e1
          go_wp2_with fail
          refine (small_any _ _ HX.out).mono ?_
          rintro e w2 ⟨rfl, hb2⟩
          rw [HE1.out]
          go_wp2_with fail
          go_ret2
          exact ⟨by rw [HV.out, HN.out]; first | rfl | simp_all, HB.out.trans (hb2.mono HB.out.size)⟩
        · have HN : Hid (schV C.data.toList = .tuple #[.string (str (lowL (C.data.toList.take k))), .bool true]) := hide (by
            refine schV_yes (b := C.data.toList.drop (k + 1)) ?_
            conv => lhs; rw [hsplit, h58]
            exact schL_of (headOK_take C k h0 (hHN h0)) HA.out)
          have tk : decide ((0 : Int) < ((k : Nat) : Int)) = true := decide_eq_true (by omega)
          clear hsplit hdr hnext hHN h58 e1
          go_wp2_with fail
          refine (small_any _ _ HX.out).mono ?_
          rintro e w2 ⟨rfl, hb2⟩
          rw [HE1.out]
          go_wp2_with fail
          go_ret2
          exact ⟨by rw [HV.out, HN.out]; first | rfl | simp_all, HB.out.trans (hb2.mono HB.out.size)⟩
      · have t58 : ((C[k].toNat : Int) == 58) = false := tF 58 h58 (by omega)
        have hstop : schB C[k] = false → schL C.data.toList = none := by
          intro h
          rw [hsplit]; exact schL_stop HA.out h h58
        have hzero : k = 0 → letterB C[k] = false → schL C.data.toList = none := by
          intro h0 hl
          have e : C.data.toList = C[k] :: C.data.toList.drop (k + 1) := by rw [← hdr, h0, List.drop_zero]
          rw [e]; exact schL_head hl
        have hhead : letterB C[k] = true → 0 < k + 1 → headOK C.data.toList = true := by
          intro h _
          rcases Nat.eq_zero_or_pos k with h0 | h0
          · have e : C.data.toList = C[k] :: C.data.toList.drop (k + 1) := by rw [← hdr, h0, List.drop_zero]
            rw [e]; exact h
          · exact hHN h0
        rcases sch_case C[k] with ⟨l1, hsc⟩ | hrest
        · have HL := hide l1
          have HA2 := hide (hnext hsc)
          have HH2 := hide (hhead l1)
          clear hsplit hdr hnext hHN h58 hstop hzero hhead l1 hsc
          go_wp2_with fail
          refine (letter_any _ _).mono ?_
          rintro e w2 ⟨rfl, rfl⟩
          rw [HL.out]
          go_wp2_with fail
          go_round
          case rel => exact ⟨k + 1, by omega, by go_num, HA2, HH2⟩
          case measure => simp [intOf]; omega
        have hl0 : letterB C[k] = false := by
          rcases hrest with ⟨h, _⟩ | ⟨h, _⟩ | ⟨h, _⟩ | ⟨h, _⟩ | ⟨h, _⟩ <;> exact h
        have HL := hide hl0
        rcases Nat.eq_zero_or_pos k with h0 | h0
        · have HN := hide (schV_no (hzero h0 hl0))
          have tk : (((k : Nat) : Int) == 0) = true := by rw [beq_iff_eq]; omega
          clear hsplit hdr hnext hHN h58 hstop hzero hhead hrest hl0
          subst h0
          go_wp2_with fail
          refine (letter_any _ _).mono ?_
          rintro e w2 ⟨rfl, rfl⟩
          rw [HL.out]
          go_wp2_with fail
          go_ret2
          exact ⟨by rw [HV.out, HN.out]; rfl, HB.out⟩
        have tk : (((k : Nat) : Int) == 0) = false := beq_eq_false_iff_ne.2 (by omega)
        rcases hrest with ⟨_, d1, hsc⟩ | ⟨_, d1, c1, hsc⟩ | ⟨_, d1, c0, c1, hsc⟩ | ⟨_, d1, c0, c00, c1, hsc⟩ | ⟨_, d1, c0, c00, c1, hsc⟩
        · have HD := hide d1
          have HA2 := hide (hnext hsc)
          have HH2 : Hid (0 < k + 1 → headOK C.data.toList = true) := hide (fun _ => hHN h0)
          clear hsplit hdr hnext hHN h58 hstop hzero hhead hl0 d1 hsc
          go_wp2_with fail
          refine (letter_any _ _).mono ?_
          rintro e w2 ⟨rfl, rfl⟩
          rw [HL.out]
          go_wp2_with fail
          refine (digit03_any _ _).mono ?_
          rintro e w2 ⟨rfl, rfl⟩
          rw [HD.out]
          go_wp2_with fail
          go_round
          case rel => exact ⟨k + 1, by omega, by go_num, HA2, HH2⟩
          case measure => simp [intOf]; omega
        · have HD := hide d1
          have HA2 := hide (hnext hsc)
          have HH2 : Hid (0 < k + 1 → headOK C.data.toList = true) := hide (fun _ => hHN h0)
          have s1 : ((C[k].toNat : Int) == 43) = true := tT 43 c1 (by omega)
          have s2 : ((C[k].toNat : Int) != 43) = false := by rw [bne, s1]; rfl
          clear hsplit hdr hnext hHN h58 hstop hzero hhead hl0 d1 hsc c1
          go_wp2_with fail
          refine (letter_any _ _).mono ?_
          rintro e w2 ⟨rfl, rfl⟩
          rw [HL.out]
          go_wp2_with fail
          refine (digit03_any _ _).mono ?_
          rintro e w2 ⟨rfl, rfl⟩
          rw [HD.out]
          go_wp2_with fail
          go_round
          case rel => exact ⟨k + 1, by omega, by go_num, HA2, HH2⟩
          case measure => simp [intOf]; omega
        · have HD := hide d1
          have HA2 := hide (hnext hsc)
          have HH2 : Hid (0 < k + 1 → headOK C.data.toList = true) := hide (fun _ => hHN h0)
          have s1 : ((C[k].toNat : Int) == 43) = false := tF 43 c0 (by omega)
          have s2 : ((C[k].toNat : Int) != 43) = true := by rw [bne, s1]; rfl
          have s3 : ((C[k].toNat : Int) == 45) = true := tT 45 c1 (by omega)
          have s4 : ((C[k].toNat : Int) != 45) = false := by rw [bne, s3]; rfl
          clear hsplit hdr hnext hHN h58 hstop hzero hhead hl0 d1 hsc c0 c1
          go_wp2_with fail
          refine (letter_any _ _).mono ?_
          rintro e w2 ⟨rfl, rfl⟩
          rw [HL.out]
          go_wp2_with fail
          refine (digit03_any _ _).mono ?_
          rintro e w2 ⟨rfl, rfl⟩
          rw [HD.out]
          go_wp2_with fail
          go_round
          case rel => exact ⟨k + 1, by omega, by go_num, HA2, HH2⟩
          case measure => simp [intOf]; omega
        · have HD := hide d1
          have HA2 := hide (hnext hsc)
          have HH2 : Hid (0 < k + 1 → headOK C.data.toList = true) := hide (fun _ => hHN h0)
          have s1 : ((C[k].toNat : Int) == 43) = false := tF 43 c0 (by omega)
          have s2 : ((C[k].toNat : Int) != 43) = true := by rw [bne, s1]; rfl
          have s3 : ((C[k].toNat : Int) == 45) = false := tF 45 c00 (by omega)
          have s4 : ((C[k].toNat : Int) != 45) = true := by rw [bne, s3]; rfl
          have s5 : ((C[k].toNat : Int) == 46) = true := tT 46 c1 (by omega)
          have s6 : ((C[k].toNat : Int) != 46) = false := by rw [bne, s5]; rfl
          clear hsplit hdr hnext hHN h58 hstop hzero hhead hl0 d1 hsc c0 c00 c1
          go_wp2_with fail
          refine (letter_any _ _).mono ?_
          rintro e w2 ⟨rfl, rfl⟩
          rw [HL.out]
          go_wp2_with fail
          refine (digit03_any _ _).mono ?_
          rintro e w2 ⟨rfl, rfl⟩
          rw [HD.out]
          go_wp2_with fail
          go_round
          case rel => exact ⟨k + 1, by omega, by go_num, HA2, HH2⟩
          case measure => simp [intOf]; omega
        · have HD := hide d1
          have HN := hide (schV_no (hstop hsc))
          have s1 : ((C[k].toNat : Int) == 43) = false := tF 43 c0 (by omega)
          have s2 : ((C[k].toNat : Int) != 43) = true := by rw [bne, s1]; rfl
          have s3 : ((C[k].toNat : Int) == 45) = false := tF 45 c00 (by omega)
          have s4 : ((C[k].toNat : Int) != 45) = true := by rw [bne, s3]; rfl
          have s5 : ((C[k].toNat : Int) == 46) = false := tF 46 c1 (by omega)
          have s6 : ((C[k].toNat : Int) != 46) = true := by rw [bne, s5]; rfl
          clear hsplit hdr hnext hHN h58 hstop hzero hhead hl0 d1 hsc c0 c00 c1
          go_wp2_with fail
          refine (letter_any _ _).mono ?_
          rintro e w2 ⟨rfl, rfl⟩
          rw [HL.out]
          go_wp2_with fail
          refine (digit03_any _ _).mono ?_
          rintro e w2 ⟨rfl, rfl⟩
          rw [HD.out]
          go_wp2_with fail
          go_ret2
          exact ⟨by rw [HV.out, HN.out]; rfl, HB.out⟩
    · have HN := hide (schV_no (schL_end (by
        have := HA.out
        rwa [List.take_of_length_le (by rw [toList_length]; omega)] at this)))
      go_wp2_with fail
      go_ret2
      exact ⟨by rw [HV.out, HN.out]; rfl, HB.out⟩
end Go.Proofs.YtklbdobofclofaaGreatDoor
