/- WALKS of the reference of layer 18: Number, image, digits, lang. No statement is proved here. Own work of the verifier. -/
import Derived.Test.YtklbdobofclofaaGreatDoorRulesG
import Derived.Test.YtklbdobofclofaaGreatDoorBaseM
namespace Go.Proofs.YtklbdobofclofaaGreatDoor
open Go.RowKit
set_option linter.unusedVariables false
set_option linter.unusedSimpArgs false
set_option maxRecDepth 100000
theorem numL_lt (n : Nat) (h : n < 10) : numL n = [UInt8.ofNat (48 + n)] := if_pos h
theorem numL_ge (n : Nat) (h : ¬ n < 10) (h2 : n < 100) : numL n = numL (n / 10) ++ [UInt8.ofNat (48 + n % 10)] := by
  unfold numL
  rw [if_neg h, if_pos (by omega)]; rfl
set_option maxHeartbeats 4000000 in
theorem number18_any (n : Nat) : n < 100 → ∀ w : World, Calls Tryz.prog 19 #[.int .i64 n] w fun e w' => e = .returned (.string (str (numL n))) ∧ Below w.heap.size w w' := by
  induction n using Nat.strongRecOn with
  | _ n ih =>
    intro hn w
    obtain ⟨D, hD⟩ : ∃ D, D = str [UInt8.ofNat (48 + n % 10)] := ⟨_, rfl⟩
    have hc := conv1 w (48 + (n : Int) % 10)
    rw [nums_str (l := [UInt8.ofNat (48 + n % 10)]) (by
      simp only [List.map_cons, List.map_nil]
      rw [show (48 + (n : Int) % 10).toNat = 48 + n % 10 by omega]), ← hD] at hc
    have hDz : D.size = 1 := by rw [hD]; rfl
    by_cases h : n < 10
    · have t0 : decide ((n : Int) < 10) = true := decide_eq_true (by omega)
      have HE : Hid (str (numL n) = D) := hide (by rw [numL_lt n h, hD, Nat.mod_eq_of_lt h])
      clear ih hD h
      go_enter Tryz.func19, Tryz.ntmps19
      go_wp2_with fail
      go_ret
      exact ⟨by rw [HE.out] <;> rfl, (Below.refl _ _).alloc (Nat.le_refl _) _⟩
    · have t0 : decide ((n : Int) < 10) = false := decide_eq_false (by omega)
      have CI := hide (fun (w : World) => ih (n / 10) (by omega) (by omega) w)
      obtain ⟨P, hP⟩ : ∃ P, P = str (numL (n / 10)) := ⟨_, rfl⟩
      rw [← hP] at CI
      have hPz : P.size ≤ 100 := by rw [hP, str_size, numL_lt _ (by omega)]; simp
      have HE : Hid (str (numL n) = P ++ D) := hide (by rw [numL_ge n h hn, hD, hP, ← str_append])
      have q1 : IntKind.i64.wrap ((n : Int) / 10) = ((n / 10 : Nat) : Int) := by rw [IntWalk.i64_in _ (by omega)]; omega
      clear ih hD h hP
      go_enter Tryz.func19, Tryz.ntmps19
      go_wp2_with (go_at_call 19; refine (CI.out _).mono ?_; rintro e w2 ⟨rfl, hb2⟩; have HB2 := hide (((Below.refl w.heap.size w).alloc (Nat.le_refl _) _).trans (hb2.mono (by rw [World.size_alloc]; omega))); clear hb2)
      go_ret
      exact ⟨by rw [HE.out] <;> rfl, HB2.out⟩
theorem imgB_take (f : FileL) : imgB f = (decide (6 ≤ f.kind.length) && (f.kind.take 6 == imageL)) := by
  unfold imgB
  rw [Bool.eq_iff_iff, List.isPrefixOf_iff_prefix]
  simp only [Bool.and_eq_true, decide_eq_true_eq, beq_iff_eq]
  constructor
  · rintro ⟨t, ht⟩
    rw [← ht]
    exact ⟨by simp [imageL], List.take_left' rfl⟩
  · rintro ⟨h1, h2⟩
    exact ⟨f.kind.drop 6, by rw [← h2, List.take_append_drop]⟩
set_option maxHeartbeats 1000000 in
theorem image18_any (f : FileL) (N K I B : ByteArray) (w : World) (hK : str f.kind = K) (hs : K.size ≤ maxLen) :
    Calls Tryz.prog 41 #[.agg #[.string N, .string K, .string I, .string B]] w fun e w' => e = .returned (.bool (imgB f)) ∧ Below w.heap.size w w' := by
  have hl : f.kind = K.data.toList := by rw [← hK, str_toList]
  unfold maxLen at hs
  by_cases h6 : 6 ≤ K.size
  · have g1 : decide ((6 : Int) ≤ K.size) = true := decide_eq_true (by omega)
    obtain ⟨b, hb⟩ : ∃ b, ((K.extract 0 6).toList == [105, 109, 97, 103, 101, 47]) = b := ⟨_, rfl⟩
    have HR : Hid (imgB f = b) := hide (by
      rw [imgB_take, hl, toList_length, decide_eq_true h6, Bool.true_and, ← hb, bytes_list, extract_list, List.drop_zero]; rfl)
    clear hK hl
    cases b
    all_goals
      go_enter Tryz.func41, Tryz.ntmps41
      go_wp2_with fail
      go_ret
      exact ⟨by rw [HR.out]; rfl, alloc_below _ _⟩
  · have g1 : decide ((6 : Int) ≤ K.size) = false := decide_eq_false (by omega)
    have HR : Hid (imgB f = false) := hide (by
      rw [imgB_take, hl, toList_length, decide_eq_false h6]; rfl)
    clear hK hl
    go_enter Tryz.func41, Tryz.ntmps41
    go_wp2_with fail
    go_ret
    exact ⟨by rw [HR.out]; rfl, alloc_below _ _⟩
set_option maxHeartbeats 2000000 in
theorem digits18_any (s : ByteArray) (w : World) (hs : s.size ≤ 1048576) :
    Calls Tryz.prog 29 #[.string s] w fun e w' => e = .returned (.bool (digsB s.data.toList)) ∧ w = w' := by
  go_enter Tryz.func29, Tryz.ntmps29
  go_wp2_with fail
  go_loop [3] (fun iv => ∃ k : Nat, k ≤ s.size ∧ iv = .int .i64 k ∧ Hid ((s.data.toList.take k).all digitB = true)) (fun iv => s.size - (intOf iv).toNat)
  case atStart => exact ⟨0, Nat.zero_le _, rfl, hide rfl⟩
  case round =>
    obtain ⟨k, hk, rfl, HN⟩ := hrel
    by_cases hlt : k < s.size
    · have HNN : digitB s[k] = true → Hid ((s.data.toList.take (k + 1)).all digitB = true) := fun h => hide (by
        rw [take_snoc s k hlt, List.all_append, HN.out]; simp [h])
      have HNO : digitB s[k] = false → Hid (digsB s.data.toList = false) := fun h => hide (by
        have : s.data.toList.all digitB = false := by
          rw [← List.take_append_drop k s.data.toList, drop_cons s k hlt, List.all_append, List.all_cons, h]; simp
        unfold digsB; rw [this]; simp)
      cases hd : digitB s[k] with
      | true =>
        have HN2 := HNN hd
        have HD := hide hd
        clear hd HNN HNO
        go_wp2_with fail
        refine (digit03_any s[k] _).mono ?_
        rintro e w1 ⟨rfl, rfl⟩
        rw [HD.out]
        go_wp2_with fail
        go_round
        case rel => exact ⟨k + 1, by omega, by go_num, HN2⟩
        case measure => simp [intOf]; omega
      | false =>
        have HR := HNO hd
        have HD := hide hd
        clear hd HNN HNO
        go_wp2_with fail
        refine (digit03_any s[k] _).mono ?_
        rintro e w1 ⟨rfl, rfl⟩
        rw [HD.out]
        go_wp2_with fail
        go_ret
        exact ⟨by rw [HR.out]; rfl, rfl⟩
    ·
      by_cases z0 : s.size = 0
      · have g1 : decide ((1 : Int) ≤ s.size) = false := decide_eq_false (by omega)
        have HR : Hid (digsB s.data.toList = false) := hide (by unfold digsB; rw [(size0 z0).1]; rfl)
        go_wp2_with fail
        go_ret
        exact ⟨by rw [HR.out]; rfl, rfl⟩
      · have g1 : decide ((1 : Int) ≤ s.size) = true := decide_eq_true (by omega)
        have e3 : s.data.toList.isEmpty = false := by rw [← bytes_list]; exact (sizeP z0).2
        by_cases z4 : s.size ≤ 4
        · have g2 : decide ((s.size : Int) ≤ 4) = true := decide_eq_true (by omega)
          have HR : Hid (digsB s.data.toList = true) := hide (by
            have h := HN.out
            rw [List.take_of_length_le (by rw [toList_length]; omega)] at h
            unfold digsB; rw [e3, toList_length, decide_eq_true z4, h]; rfl)
          clear e3
          go_wp2_with fail
          go_ret
          exact ⟨by rw [HR.out]; rfl, rfl⟩
        · have g2 : decide ((s.size : Int) ≤ 4) = false := decide_eq_false (by omega)
          have HR : Hid (digsB s.data.toList = false) := hide (by
            unfold digsB; rw [e3, toList_length, decide_eq_false z4]; rfl)
          clear e3
          go_wp2_with fail
          go_ret
          exact ⟨by rw [HR.out]; rfl, rfl⟩
theorem mark45 (c : UInt8) : markB [45] c = (letterB c || (digitB c || c == 45)) :=
  u8_all (p := fun c => markB [45] c = (letterB c || (digitB c || c == 45))) (by decide +kernel) c
set_option maxHeartbeats 2000000 in
theorem lang18_any (s : ByteArray) (w : World) (hs : s.size ≤ 1048576) :
    Calls Tryz.prog 28 #[.string s] w fun e w' => e = .returned (.bool (langB s.data.toList)) ∧ w = w' := by
  go_enter Tryz.func28, Tryz.ntmps28
  go_wp2_with fail
  go_loop [3] (fun iv => ∃ k : Nat, k ≤ s.size ∧ iv = .int .i64 k ∧ Hid ((s.data.toList.take k).all (markB [45]) = true)) (fun iv => s.size - (intOf iv).toNat)
  case atStart => exact ⟨0, Nat.zero_le _, rfl, hide rfl⟩
  case round =>
    obtain ⟨k, hk, rfl, HN⟩ := hrel
    by_cases hlt : k < s.size
    · have HNN : (markB [45]) s[k] = true → Hid ((s.data.toList.take (k + 1)).all (markB [45]) = true) := fun h => hide (by
        rw [take_snoc s k hlt, List.all_append, HN.out]; simp [h])
      have HNO : (markB [45]) s[k] = false → Hid (langB s.data.toList = false) := fun h => hide (by
        have : s.data.toList.all (markB [45]) = false := by
          rw [← List.take_append_drop k s.data.toList, drop_cons s k hlt, List.all_append, List.all_cons, h]; simp
        unfold langB; rw [this]; simp)
      cases hl : letterB s[k] with
      | true =>
        have HN2 := HNN (by rw [mark45, hl]; rfl)
        have HL := hide hl
        clear hl HNN HNO
        go_wp2_with fail
        refine (letter_any s[k] _).mono ?_
        rintro e w1 ⟨rfl, rfl⟩
        rw [HL.out]
        go_wp2_with fail
        go_round
        case rel => exact ⟨k + 1, by omega, by go_num, HN2⟩
        case measure => simp [intOf]; omega
      | false =>
        cases hd : digitB s[k] with
        | true =>
          have HN2 := HNN (by rw [mark45, hl, hd]; rfl)
          have HL := hide hl
          have HD := hide hd
          clear hl hd HNN HNO
          go_wp2_with fail
          refine (letter_any s[k] _).mono ?_
          rintro e w1 ⟨rfl, rfl⟩
          rw [HL.out]
          go_wp2_with fail
          refine (digit03_any s[k] _).mono ?_
          rintro e w1 ⟨rfl, rfl⟩
          rw [HD.out]
          go_wp2_with fail
          go_round
          case rel => exact ⟨k + 1, by omega, by go_num, HN2⟩
          case measure => simp [intOf]; omega
        | false =>
          by_cases h45 : s[k] = 45
          · have t1 : ((s[k].toNat : Int) == 45) = true := tT 45 h45 (by omega)
            have t2 : ((s[k].toNat : Int) != 45) = false := by rw [bne, t1]; rfl
            have HN2 := HNN (by rw [mark45, hl, hd, h45]; rfl)
            have HL := hide hl
            have HD := hide hd
            clear hl hd HNN HNO h45
            go_wp2_with fail
            refine (letter_any s[k] _).mono ?_
            rintro e w1 ⟨rfl, rfl⟩
            rw [HL.out]
            go_wp2_with fail
            refine (digit03_any s[k] _).mono ?_
            rintro e w1 ⟨rfl, rfl⟩
            rw [HD.out]
            go_wp2_with fail
            go_round
            case rel => exact ⟨k + 1, by omega, by go_num, HN2⟩
            case measure => simp [intOf]; omega
          · have t1 : ((s[k].toNat : Int) == 45) = false := tF 45 h45 (by omega)
            have t2 : ((s[k].toNat : Int) != 45) = true := by rw [bne, t1]; rfl
            have HR := HNO (by rw [mark45, hl, hd]; simpa using h45)
            have HL := hide hl
            have HD := hide hd
            clear hl hd HNN HNO h45
            go_wp2_with fail
            refine (letter_any s[k] _).mono ?_
            rintro e w1 ⟨rfl, rfl⟩
            rw [HL.out]
            go_wp2_with fail
            refine (digit03_any s[k] _).mono ?_
            rintro e w1 ⟨rfl, rfl⟩
            rw [HD.out]
            go_wp2_with fail
            go_ret
            exact ⟨by rw [HR.out]; rfl, rfl⟩
    ·
      by_cases z0 : s.size = 0
      · have g1 : decide ((1 : Int) ≤ s.size) = false := decide_eq_false (by omega)
        have HR : Hid (langB s.data.toList = false) := hide (by unfold langB; rw [(size0 z0).1]; rfl)
        go_wp2_with fail
        go_ret
        exact ⟨by rw [HR.out]; rfl, rfl⟩
      · have g1 : decide ((1 : Int) ≤ s.size) = true := decide_eq_true (by omega)
        have e3 : s.data.toList.isEmpty = false := by rw [← bytes_list]; exact (sizeP z0).2
        by_cases z4 : s.size ≤ 20
        · have g2 : decide ((s.size : Int) ≤ 20) = true := decide_eq_true (by omega)
          have HR : Hid (langB s.data.toList = true) := hide (by
            have h := HN.out
            rw [List.take_of_length_le (by rw [toList_length]; omega)] at h
            unfold langB; rw [e3, toList_length, decide_eq_true z4, h]; rfl)
          clear e3
          go_wp2_with fail
          go_ret
          exact ⟨by rw [HR.out]; rfl, rfl⟩
        · have g2 : decide ((s.size : Int) ≤ 20) = false := decide_eq_false (by omega)
          have HR : Hid (langB s.data.toList = false) := hide (by
            unfold langB; rw [e3, toList_length, decide_eq_false z4]; rfl)
          clear e3
          go_wp2_with fail
          go_ret
          exact ⟨by rw [HR.out]; rfl, rfl⟩
end Go.Proofs.YtklbdobofclofaaGreatDoor
