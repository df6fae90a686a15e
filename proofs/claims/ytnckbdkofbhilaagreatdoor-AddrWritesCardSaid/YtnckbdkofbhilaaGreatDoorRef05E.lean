/- WALK of the reference's Encode (layer 5). No statement is proved here. -/
import Derived.Test.YtnckbdkofbhilaaGreatDoorWordC
import Derived.Test.YtnckbdkofbhilaaGreatDoorRefWhole
import Derived.Test.YtnckbdkofbhilaaGreatDoorRefValid
import Derived.Test.YtnckbdkofbhilaaGreatDoorB64RefF
namespace Go.Proofs.YtnckbdkofbhilaaGreatDoor
open Go.RowKit
set_option linter.unusedVariables false
set_option linter.unusedSimpArgs false
set_option maxRecDepth 100000

/-- plain so far: each byte ahead of k is a sign, and no `=?` begins there -/
def plainTo (l : List UInt8) (k : Nat) : Bool := withinB 32 126 (l.take k) && (List.range k).all fun i => decide ((l.drop i).take 2 ≠ [61, 63])
theorem plainTo_zero (l : List UInt8) : plainTo l 0 = true := rfl
theorem plainTo_succ (s : ByteArray) (k : Nat) (h : k < s.size) : plainTo s.data.toList (k + 1) = (plainTo s.data.toList k && (decide ((32 : Int) ≤ s[k].toNat) && decide ((s[k].toNat : Int) ≤ 126)) && decide ((s.data.toList.drop k).take 2 ≠ [61, 63])) := by
  unfold plainTo withinB
  rw [take_snoc s k h, List.all_append, List.range_succ, List.all_append]
  simp only [List.all_cons, List.all_nil, Bool.and_true]
  generalize (List.take k s.data.toList).all _ = A
  generalize (List.range k).all _ = B
  generalize (decide ((32 : Int) ≤ s[k].toNat) && decide ((s[k].toNat : Int) ≤ 126)) = C
  generalize decide ((s.data.toList.drop k).take 2 ≠ [61, 63]) = D
  cases A <;> cases B <;> cases C <;> cases D <;> rfl
theorem contains_all (l : List UInt8) : (!Lib.contains l [61, 63]) = (List.range l.length).all fun i => decide ((l.drop i).take 2 ≠ [61, 63]) := by
  have hp : ∀ i, Lib.occAt l [61, 63] i = decide ((l.drop i).take 2 = [61, 63]) := fun i => prefix_take (l.drop i) [61, 63]
  unfold Lib.contains
  rcases Lib.index_spec l [61, 63] with ⟨h1, h2⟩ | ⟨j, h1, h2, h3, _⟩
  · rw [h1]
    have : (List.range l.length).all (fun i => decide ((l.drop i).take 2 ≠ [61, 63])) = true := by
      rw [List.all_eq_true]
      intro i hi
      have := h2 i (Nat.le_of_lt (List.mem_range.1 hi))
      rw [hp] at this
      exact decide_eq_true (of_decide_eq_false this)
    rw [this]; rfl
  · rw [h1]
    have hj : (l.drop j).take 2 = [61, 63] := by rw [hp] at h3; exact of_decide_eq_true h3
    have hjl : j < l.length := by
      rcases Nat.lt_or_ge j l.length with h | h
      · exact h
      · rw [List.drop_eq_nil_of_le h] at hj; cases hj
    have h4 : decide (0 ≤ (j : Int)) = true := decide_eq_true (by omega)
    rw [h4]
    symm
    rw [Bool.not_true, List.all_eq_false]
    exact ⟨j, List.mem_range.2 hjl, by simp [hj]⟩
theorem plainTo_end (s : ByteArray) (k : Nat) (h : s.size ≤ k) (h' : k ≤ s.size) : plainTo s.data.toList k = plainL s.data.toList := by
  have e : k = s.data.toList.length := by rw [toList_length]; omega
  unfold plainTo plainL
  rw [contains_all, e, List.take_length]
theorem take2_at (s : ByteArray) (k : Nat) (h : k < s.size) : (k + 1 < s.size ∧ (s.extract k (k + 2)).toList = (s.data.toList.drop k).take 2) ∨ (s.size ≤ k + 1 ∧ (s.data.toList.drop k).take 2 ≠ [61, 63]) := by
  by_cases h2 : k + 1 < s.size
  · exact .inl ⟨h2, by rw [bytes_list]; exact extract_mid s k 2⟩
  · refine .inr ⟨by omega, ?_⟩
    rw [drop_cons s k h, drop_nil s (k + 1) (by omega)]
    intro e; have := congrArg List.length e; simp at this
theorem plain_round (s : ByteArray) (k : Nat) (h : k < s.size) (hb : true = plainTo s.data.toList k) :
    ((32 : Int) ≤ s[k].toNat → (s[k].toNat : Int) ≤ 126 → k + 1 < s.size → (!((s.extract k (k + 2)).toList == [61, 63])) = plainTo s.data.toList (k + 1)) ∧
    ((32 : Int) ≤ s[k].toNat → (s[k].toNat : Int) ≤ 126 → s.size ≤ k + 1 → true = plainTo s.data.toList (k + 1)) ∧
    ((32 : Int) ≤ s[k].toNat → ¬ (s[k].toNat : Int) ≤ 126 → false = plainTo s.data.toList (k + 1)) ∧
    (¬ (32 : Int) ≤ s[k].toNat → false = plainTo s.data.toList (k + 1)) := by
  have hps := plainTo_succ s k h
  rw [← hb, Bool.true_and] at hps
  rw [hps]
  refine ⟨fun h1 h2 h3 => ?_, fun h1 h2 h3 => ?_, fun h1 h2 => ?_, fun h1 => ?_⟩
  · simp only [h1, h2, decide_true, Bool.true_and]
    rcases take2_at s k h with ⟨_, ht⟩ | ⟨h4, _⟩
    · rw [ht]
      by_cases e : (s.data.toList.drop k).take 2 = [61, 63]
      · rw [e]; rfl
      · rw [beq_eq_false_iff_ne.2 e, decide_eq_true e]; rfl
    · omega
  · simp only [h1, h2, decide_true, Bool.true_and]
    rcases take2_at s k h with ⟨h4, _⟩ | ⟨_, ht⟩
    · omega
    · exact (decide_eq_true ht).symm
  · simp [h2]
  · simp [h1]
theorem encodeL_ref {l : List UInt8} (h : plainL l = false) : encodeL l = encW [] (validL l) := by
  have hl : l ≠ [] := by rintro rfl; exact absurd h (by decide)
  have hv : validL l ≠ [] := by
    intro e
    have := vStep_pos' l hl
    rw [validL_cons hl] at e
    have h3 := congrArg List.length (List.append_eq_nil_iff.1 e).1
    rw [List.length_nil] at h3; omega
  unfold encodeL
  rw [h, encW_join _ (allWhole_valid l) hv]; rfl
/-- what a round of the groups hands on -/
theorem encRef_round {V S O E : ByteArray} {k : Nat} {R : List UInt8} (hk : k < V.size) (hw : allWhole (V.data.toList.drop k) = true) (hS : S.size ≤ 30) (hO : O.size ≤ 53 * k) (hE : E = str (encB S.data.toList))
    (hd : O.data.toList ++ encW S.data.toList (V.data.toList.drop k) = R) :
    ∃ n, n = wholeN (V.data.toList.drop k) ∧ 0 < n ∧ n ≤ 4 ∧ k + n ≤ V.size ∧ E.size ≤ 40 ∧ (V.extract k (k + n)).size = n ∧ allWhole (V.data.toList.drop (k + n)) = true ∧
      (30 < S.size + n → (O ++ ⟨#[61, 63, 117, 116, 102, 45, 56, 63, 66, 63]⟩ ++ E ++ ⟨#[63, 61, 32]⟩).data.toList ++ encW (⟨#[]⟩ ++ V.extract k (k + n)).data.toList (V.data.toList.drop (k + n)) = R ∧ (O ++ ⟨#[61, 63, 117, 116, 102, 45, 56, 63, 66, 63]⟩ ++ E ++ ⟨#[63, 61, 32]⟩).size ≤ 53 * (k + n) ∧ (⟨#[]⟩ ++ V.extract k (k + n)).size ≤ 30) ∧
      (¬ 30 < S.size + n → O.data.toList ++ encW (S ++ V.extract k (k + n)).data.toList (V.data.toList.drop (k + n)) = R ∧ O.size ≤ 53 * (k + n) ∧ (S ++ V.extract k (k + n)).size ≤ 30) := by
  have hne : V.data.toList.drop k ≠ [] := by rw [drop_cons V k hk]; simp
  have hz := allWhole_ne hw hne
  have hle := wholeN_le (V.data.toList.drop k)
  rw [List.length_drop, toList_length] at hle
  have hx : ∀ n, (V.extract k (k + n)).data.toList = (V.data.toList.drop k).take n := fun n => extract_mid V k n
  have hxs : (V.extract k (k + wholeN (V.data.toList.drop k))).size = wholeN (V.data.toList.drop k) := by rw [ByteArray.size_extract]; omega
  have hEs : E.size ≤ 40 := by rw [hE, str_size, encB_len, toList_length]; omega
  have hst := allWhole_step hw
  rw [List.drop_drop] at hst
  refine ⟨_, rfl, by omega, by omega, by omega, hEs, hxs, hst, fun h => ⟨?_, ?_, ?_⟩, fun h => ⟨?_, by omega, ?_⟩⟩
  · rw [encW_new hz (by rw [toList_length]; exact h), List.drop_drop] at hd
    rw [← hd, hE, wordL_eq]
    simp only [ByteArray.data_append, Array.toList_append, str_toList, hx]
    simp
  · have e1 : (⟨#[61, 63, 117, 116, 102, 45, 56, 63, 66, 63]⟩ : ByteArray).size = 10 := rfl
    have e2 : (⟨#[63, 61, 32]⟩ : ByteArray).size = 3 := rfl
    simp only [ByteArray.size_append]
    rw [e1, e2]; omega
  · have e1 : (⟨#[]⟩ : ByteArray).size = 0 := rfl
    rw [ByteArray.size_append, e1, hxs]; omega
  · rw [encW_go hz (by rw [toList_length]; exact h), List.drop_drop] at hd
    rw [← hd]
    simp only [ByteArray.data_append, Array.toList_append, hx]
  · rw [ByteArray.size_append, hxs]; omega

set_option maxHeartbeats 4000000 in
theorem refWEncode_any (s : ByteArray) (w : World) (hs : s.size ≤ 30000) :
    Calls Tryz.prog 46 #[.string s] w fun e w' => e = .returned (.string (str (encodeL s.data.toList))) ∧ Below w.heap.size w w' := by
  go_enter Tryz.func46, Tryz.ntmps46
  go_wp2_with fail
  go_loop [3, 4] (fun p i => ∃ (k : Nat) (b : Bool), k ≤ s.size ∧ i = .int .i64 k ∧ p = .bool b ∧ Hid (b = plainTo s.data.toList k)) (fun _ i => s.size - (intOf i).toNat)
  case atStart => exact ⟨0, true, Nat.zero_le _, rfl, rfl, hide rfl⟩
  case round =>
    obtain ⟨k, b, hk, rfl, rfl, HB⟩ := hrel
    by_cases hlt : k < s.size
    · have hps := plainTo_succ s k hlt
      rw [← HB.out] at hps
      have F1 := hide (show k + 1 ≤ s.size by omega)
      have F2 := hide (show s.size - (k + 1) < s.size - k by omega)
      cases b with
      | false =>
        have HN : Hid (false = plainTo s.data.toList (k + 1)) := hide (by rw [hps]; rfl)
        clear hps HB
        go_wp2_with fail
        go_round
        case rel => exact ⟨k + 1, false, F1.out, by go_num, rfl, HN⟩
        case measure => exact F2.out
      | true =>
        obtain ⟨r1, r2, r3, r4⟩ := plain_round s k hlt HB.out
        clear hps HB
        by_cases h32 : (32 : Int) ≤ (s[k]'hlt).toNat
        · have t1 : decide ((32 : Int) ≤ (s[k]'hlt).toNat) = true := decide_eq_true h32
          by_cases h126 : ((s[k]'hlt).toNat : Int) ≤ 126
          · have t2 : decide (((s[k]'hlt).toNat : Int) ≤ 126) = true := decide_eq_true h126
            by_cases h2 : k + 1 < s.size
            · have HN := hide (r1 h32 h126 h2)
              have t3 : decide ((s.size : Int) ≤ (k : Int) + 1) = false := decide_eq_false (by omega)
              have k0 : (0 : Int) ≤ k := by omega
              have k2 : (k : Int) + 2 ≤ s.size := by omega
              cases hq : ((s.extract k (k + 2)).toList == [61, 63]) with
              | false =>
                rw [hq] at HN
                have t5 : ((s.extract k (k + 2)).toList != [61, 63]) = true := by simp [bne, hq]
                clear r1 r2 r3 r4 h32 h126
                go_wp2_with fail
                go_round
                case rel => exact ⟨k + 1, true, F1.out, by go_num, by first | rfl | simp, HN⟩
                case measure => exact F2.out
              | true =>
                rw [hq] at HN
                have t5 : ((s.extract k (k + 2)).toList != [61, 63]) = false := by simp [bne, hq]
                clear r1 r2 r3 r4 h32 h126
                go_wp2_with fail
                go_round
                case rel => exact ⟨k + 1, false, F1.out, by go_num, by first | rfl | simp, HN⟩
                case measure => exact F2.out
            · have HN := hide (r2 h32 h126 (Nat.not_lt.1 h2))
              have t3 : decide ((s.size : Int) ≤ (k : Int) + 1) = true := decide_eq_true (by omega)
              clear r1 r2 r3 r4 h32 h126
              go_wp2_with fail
              go_round
              case rel => exact ⟨k + 1, true, F1.out, by go_num, by first | rfl | simp, HN⟩
              case measure => exact F2.out
          · have t2 : decide (((s[k]'hlt).toNat : Int) ≤ 126) = false := decide_eq_false h126
            have HN := hide (r3 h32 h126)
            clear r1 r2 r3 r4 h32 h126
            go_wp2_with fail
            go_round
            case rel => exact ⟨k + 1, false, F1.out, by go_num, by first | rfl | simp, HN⟩
            case measure => exact F2.out
        · have t1 : decide ((32 : Int) ≤ (s[k]'hlt).toNat) = false := decide_eq_false h32
          have HN := hide (r4 h32)
          clear r1 r2 r3 r4 h32
          go_wp2_with fail
          go_round
          case rel => exact ⟨k + 1, false, F1.out, by go_num, by first | rfl | simp, HN⟩
          case measure => exact F2.out
    · have HP : Hid (b = plainL s.data.toList) := hide (by rw [HB.out, plainTo_end s k (by omega) hk])
      clear HB
      cases b with
      | true =>
        have HR : Hid (encodeL s.data.toList = s.data.toList) := hide (by unfold encodeL; rw [← HP.out]; rfl)
        go_wp2_with fail
        go_ret
        exact ⟨ret_str (by rw [HR.out, str_of]), Below.refl _ _⟩
      | false =>
        have hR := encodeL_ref HP.out.symm
        have hvl := validL_length s.data.toList
        rw [toList_length] at hvl
        obtain ⟨V, hV⟩ : ∃ V, V = str (validL s.data.toList) := ⟨_, rfl⟩
        have hVs : V.size ≤ 90000 := by rw [hV, str_size]; omega
        have hVl : V.data.toList = validL s.data.toList := by rw [hV, str_toList]
        have HW := hide (show allWhole (V.data.toList.drop 0) = true by rw [hVl]; exact allWhole_valid _)
        rw [← hVl] at hR
        have HR := hide hR
        have HV := hide hV
        have hs2 : s.size ≤ 1048576 := by omega
        clear hV hVl hR hvl
        go_wp2_with fail
        refine (refValid_any s _ hs2).mono ?_
        rintro e w1 ⟨rfl, hb1⟩
        rw [← HV.out]
        have HB1 := hide hb1
        clear hb1
        go_wp2_with fail
        go_loopw [6, 7, 8] (fun o sm i wr => ∃ (O S : ByteArray) (k : Nat), o = .string O ∧ sm = .string S ∧ i = .int .i64 k ∧ k ≤ V.size ∧ Hid (Below w.heap.size w wr) ∧ S.size ≤ 30 ∧ O.size ≤ 53 * k ∧ Hid (allWhole (V.data.toList.drop k) = true) ∧ Hid (O.data.toList ++ encW S.data.toList (V.data.toList.drop k) = encodeL s.data.toList)) (fun _ _ i _ => V.size - (intOf i).toNat)
        case atStart => exact ⟨⟨#[]⟩, ⟨#[]⟩, 0, rfl, rfl, rfl, Nat.zero_le _, HB1, Nat.zero_le _, Nat.le_refl _, HW, hide (by rw [HR.out]; rfl)⟩
        case round =>
          obtain ⟨O, S, q, rfl, rfl, rfl, hq, HBW, hS, hO, HAW, HD⟩ := hrel
          obtain ⟨E, hE⟩ : ∃ E, E = str (encB S.data.toList) := ⟨_, rfl⟩
          have HE := hide hE
          have hOz : O.size ≤ 5000000 := by omega
          have hSz := hide (show S.size ≤ 100000 by omega)
          by_cases hql : q < V.size
          · obtain ⟨n, hn, n0, n4, hqn, hEs, hxs, haw, c1, c2⟩ := encRef_round hql HAW.out hS hO hE HD.out
            have HN := hide hn
            have C1 := hide c1
            have C2 := hide c2
            have AW := hide haw
            have F1 := hide hqn
            have F2 := hide (show V.size - (q + n) < V.size - q by omega)
            have hxs2 : (V.extract q (q + n)).size ≤ 4 := by omega
            have k0 : (0 : Int) ≤ q := by omega
            have k2 : (q : Int) + n ≤ V.size := by omega
            have VZ := hide (show V.size ≤ 70368744177664 by omega)
            clear hn c1 c2 haw hxs HD HAW hE
            by_cases h30 : 30 < S.size + n
            · obtain ⟨g1, g2, g3⟩ := C1.out h30
              have G1 := hide g1
              have G2 := hide g2
              have G3 := hide g3
              have t1 : decide ((30 : Int) < (S.size : Int) + n) = true := decide_eq_true (by omega)
              clear g1 g2 g3 h30
              go_wp2_with fail
              refine (whole_any V q _ VZ.out hql).mono ?_
              rintro e w2 ⟨rfl, rfl⟩
              rw [← HN.out]
              go_wp2_with fail
              refine (ref64Encode_any S _ hSz.out).mono ?_
              rintro e w3 ⟨rfl, hb3⟩
              rw [← HE.out]
              have HB3 := hide (HBW.out.trans (hb3.mono HBW.out.size))
              clear hb3
              go_wp2_with fail
              go_roundw
              case rel => exact ⟨_, _, q + n, rfl, rfl, by go_num, F1.out, HB3, G3.out, G2.out, AW, G1⟩
              case measure => exact F2.out
            · obtain ⟨g1, g2, g3⟩ := C2.out h30
              have G1 := hide g1
              have G2 := hide g2
              have G3 := hide g3
              have t1 : decide ((30 : Int) < (S.size : Int) + n) = false := decide_eq_false (by omega)
              clear g1 g2 g3 h30
              go_wp2_with fail
              refine (whole_any V q _ VZ.out hql).mono ?_
              rintro e w2 ⟨rfl, rfl⟩
              rw [← HN.out]
              go_wp2_with fail
              go_roundw
              case rel => exact ⟨_, _, q + n, rfl, rfl, by go_num, F1.out, HBW, G3.out, G2.out, AW, G1⟩
              case measure => exact F2.out
          · have hEs : E.size ≤ 40 := by rw [hE, str_size, encB_len, toList_length]; omega
            have HF : Hid (O ++ ⟨#[61, 63, 117, 116, 102, 45, 56, 63, 66, 63]⟩ ++ E ++ ⟨#[63, 61]⟩ = str (encodeL s.data.toList)) := hide (ext_list (by
              rw [str_toList, ← HD.out, drop_nil V q (by omega), encW_end rfl, hE, wordL_eq]
              simp only [ByteArray.data_append, Array.toList_append, str_toList]
              simp))
            clear hE HD HAW
            go_wp2_with fail
            refine (ref64Encode_any S _ hSz.out).mono ?_
            rintro e w3 ⟨rfl, hb3⟩
            rw [← HE.out]
            have HB3 := hide (HBW.out.trans (hb3.mono HBW.out.size))
            clear hb3
            go_wp2_with fail
            go_ret
            exact ⟨ret_str HF.out, HB3.out⟩
end Go.Proofs.YtnckbdkofbhilaaGreatDoor
