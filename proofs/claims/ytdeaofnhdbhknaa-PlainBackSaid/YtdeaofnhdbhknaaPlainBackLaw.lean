/- WALK of the law PlainBack. Written by wip/tools/plainlaws.py. No statement is proved here. Own work of the verifier. -/
import Derived.Test.YtdeaofnhdbhknaaPnLv
namespace Go.Proofs.Ytdeaofnhdbhknaa
open Go.RowKit
set_option linter.unusedVariables false
set_option linter.unusedSimpArgs false
set_option maxRecDepth 100000
theorem at_list (s : ByteArray) (k : Nat) (h : k < s.size) : s.data.toList[k]'(by rw [toList_length]; exact h) = s[k] := by
  rw [Array.getElem_toList]; rfl
def GoodAt (s : ByteArray) (k : Nat) : Prop := ∀ (h : k < s.size), s[k] ≠ 13 ∧ (s[k] = 62 → k ≠ 0 ∧ s[k - 1]'(by omega) ≠ 10)
theorem quiet_of (s : ByteArray) (h : ∀ k, k < s.size → GoodAt s k) : QuietL s.data.toList := by
  intro i hi
  have hi2 : i < s.size := by rw [toList_length] at hi; exact hi
  obtain ⟨h1, h2⟩ := h i hi2 hi2
  refine ⟨by rw [at_list s i hi2]; exact h1, fun e => ?_⟩
  rw [at_list s i hi2] at e
  obtain ⟨h3, h4⟩ := h2 e
  exact ⟨h3, by rw [at_list s (i - 1) (by omega)]; exact h4⟩
set_option maxHeartbeats 8000000 in
theorem law_PlainBack (s : ByteArray) (hmx : s.size ≤ maxLen) (w : World) :
    Calls Try.prog 5 #[.string s] w fun e w' => e = .returned (.bool true) ∧ Below w.heap.size w w' := by
  have hL0 : ∀ w1 : World, Below w.heap.size w w1 → Calls Try.prog 9 #[] w1 fun e w' => e = .returned (.bool true) ∧ Below w.heap.size w w' := fun w1 hb => (live20_any w1).mono fun e w' ⟨h1, h2⟩ => ⟨h1, bl_two hb h2⟩
  have HLV := hide hL0
  clear hL0 hmx
  by_cases hbig : 3000 < s.size
  · have t0 : decide ((3000 : Int) < (s.size : Int)) = true := decide_eq_true (by omega)
    go_enter Try.func5, Try.ntmps5
    go_wp2_with fail
    refine (HLV.out w (Below.refl _ _)).mono ?_
    rintro e w1 ⟨rfl, hb⟩
    go_wp2_with fail
    go_ret
    exact ⟨rfl, hb⟩
  · have t0 : decide ((3000 : Int) < (s.size : Int)) = false := decide_eq_false (by omega)
    have hsm : s.size ≤ 3000 := by omega
    clear hbig
    go_enter Try.func5, Try.ntmps5
    go_wp2_with fail
    go_loopw [3] (fun i wr => ∃ k : Nat, k ≤ s.size ∧ i = .int .i64 k ∧ Hid (wr = w) ∧ Hid (∀ j, j < k → GoodAt s j)) (fun i _ => s.size - (intOf i).toNat)
    case atStart => exact ⟨0, Nat.zero_le _, rfl, hide rfl, hide (fun j h => absurd h (Nat.not_lt_zero _))⟩
    case round =>
      obtain ⟨k, hk, rfl, HW, HG⟩ := hrel
      by_cases hlt : k < s.size
      · by_cases h13 : s[k] = 13
        · have u1 : ((s[k].toNat : Int) == 13) = true := tT 13 h13 (by decide)
          clear h13
          go_wp2_with fail
          refine (HLV.out wr (by rw [HW.out]; exact Below.refl _ _)).mono ?_
          rintro e w1 ⟨rfl, hb⟩
          go_wp2_with fail
          go_ret
          exact ⟨rfl, hb⟩
        · have u1 : ((s[k].toNat : Int) == 13) = false := tF 13 h13 (by decide)
          by_cases h62 : s[k] = 62
          · have u2 : ((s[k].toNat : Int) == 62) = true := tT 62 h62 (by decide)
            by_cases h0 : k = 0
            · have u3 : ((k : Int) == 0) = true := by rw [h0]; rfl
              clear h13 h62 h0
              go_wp2_with fail
              all_goals
                refine (HLV.out wr (by rw [HW.out]; exact Below.refl _ _)).mono ?_
                rintro e w1 ⟨rfl, hb⟩
                go_wp2_with fail
                go_ret
                exact ⟨rfl, hb⟩
            · have u3 : ((k : Int) == 0) = false := by rw [beq_eq_false_iff_ne]; omega
              have e1 : ((k : Int) - 1).toNat = k - 1 := by omega
              have e2 : wrap64 ((k : Int) - 1) = (k : Int) - 1 := by unfold wrap64; omega
              have e3 : (0 : Int) ≤ (k : Int) - 1 := by clear e2; omega
              have e4 : (k : Int) - 1 < (s.size : Int) := by clear e2; omega
              have e5 : k - 1 < s.size := by clear e2; omega
              by_cases h10 : s[k - 1] = 10
              · have u4 : ((s[k - 1].toNat : Int) == 10) = true := tT 10 h10 (by decide)
                clear h13 h62 h0 h10
                go_wp2_with fail
                refine (HLV.out wr (by rw [HW.out]; exact Below.refl _ _)).mono ?_
                rintro e w1 ⟨rfl, hb⟩
                go_wp2_with fail
                go_ret
                exact ⟨rfl, hb⟩
              · have u4 : ((s[k - 1].toNat : Int) == 10) = false := tF 10 h10 (by decide)
                have HN : Hid (∀ j, j < k + 1 → GoodAt s j) := hide (fun j hj => by
                  rcases Nat.lt_succ_iff_lt_or_eq.1 hj with h | rfl
                  · exact HG.out j h
                  · exact fun _ => ⟨h13, fun _ => ⟨h0, h10⟩⟩)
                clear h13 h62 h0 h10
                go_wp2_with fail
                go_roundw
                case rel => exact ⟨k + 1, by clear e2; omega, by clear e2; go_num, HW, HN⟩
                case measure => clear e2; simp [intOf]; omega
          · have u2 : ((s[k].toNat : Int) == 62) = false := tF 62 h62 (by decide)
            have HN : Hid (∀ j, j < k + 1 → GoodAt s j) := hide (fun j hj => by
              rcases Nat.lt_succ_iff_lt_or_eq.1 hj with h | rfl
              · exact HG.out j h
              · exact fun _ => ⟨h13, fun e => absurd e h62⟩)
            clear h13 h62
            go_wp2_with fail
            go_roundw
            case rel => exact ⟨k + 1, by omega, by go_num, HW, HN⟩
            case measure => simp [intOf]; omega
      · obtain rfl : k = s.size := by omega
        have hq := quiet_of s HG.out
        have hpl := plain_quiet s.data.toList hq
        obtain ⟨p1, p2, p3⟩ := plainP_size s.data.toList
        rw [toList_length] at p1 p2
        have HTR := hide (plainTree_any s wr (by omega))
        obtain ⟨WN, hWN⟩ : ∃ W, W = str (lessLF s.data.toList) := ⟨_, rfl⟩
        have HTX : Hid (∀ u w1, NodesIn w1 u (plainP s.data.toList) → Calls Try.prog 16 #[u] w1 fun e w' => e = .returned (.string WN) ∧ Below w1.heap.size w1 w') := hide (fun u w1 h => by
          have := plainText_any u (plainP s.data.toList) w1 h (by omega) (by omega)
          rw [hpl, ← hWN] at this; exact this)
        have HBW : Hid (Below w.heap.size w wr) := hide (by rw [HW.out]; exact Below.refl _ _)
        have q1 : (WN.toList == WN.toList) = true := beq_self_eq_true _
        clear hq hpl p1 p2 p3 HG
        by_cases hz : s.size = 0
        · have t1 : decide ((0 : Int) < (s.size : Int)) = false := decide_eq_false (by omega)
          have t1n : ¬ (0 < s.size) := by omega
          have HWS : Hid (WN = s) := hide (by
            have : s.data.toList = [] := List.eq_nil_of_length_eq_zero (by rw [toList_length]; exact hz)
            rw [hWN, this]; exact ext_list (by rw [this]; rfl))
          rw [HWS.out] at HTX q1
          clear hWN hz
          go_wp2_with fail
          refine HTR.out.mono ?_
          rintro e w1 ⟨u, rfl, hn1, hb1⟩
          have HN1 : Hid (NodesIn w1 u (plainP s.data.toList)) := hide (hn1.mono (fun _ _ => rfl) (fun b hb => hb.2))
          have HB1 := hide (bl_two HBW.out hb1)
          clear hn1 hb1
          go_wp2_with fail
          refine (HTX.out u w1 HN1.out).mono ?_
          rintro e w2 ⟨rfl, hb2⟩
          have HB2 := hide (bl_two HB1.out hb2)
          clear hb2
          skip
          go_wp2_with fail
          refine (HLV.out w2 HB2.out).mono ?_
          rintro e w3 ⟨rfl, hb⟩
          go_wp2_with fail
          go_ret
          exact ⟨rfl, hb⟩
        · have t1 : decide ((0 : Int) < (s.size : Int)) = true := decide_eq_true (by omega)
          have e1 : ((s.size : Int) - 1).toNat = s.size - 1 := by omega
          have e2 : wrap64 ((s.size : Int) - 1) = (s.size : Int) - 1 := by unfold wrap64; omega
          have e3 : (0 : Int) ≤ (s.size : Int) - 1 := by clear e2; omega
          have e4 : (s.size : Int) - 1 < (s.size : Int) := by clear e2; omega
          have e4b : (s.size : Int) - 1 ≤ (s.size : Int) := by clear e2; omega
          have e5 : s.size - 1 < s.size := by clear e2; omega
          have hlast : s.data.toList.getLast? = some (s[s.size - 1]) := by
            rw [List.getLast?_eq_getElem?, toList_length, List.getElem?_eq_getElem (by rw [toList_length]; exact e5), at_list]
          by_cases h10 : s[s.size - 1] = 10
          · have u4 : ((s[s.size - 1].toNat : Int) == 10) = true := tT 10 h10 (by decide)
            have HWS : Hid (s.extract 0 (s.size - 1) = WN) := hide (by
              rw [hWN]
              unfold lessLF
              rw [if_pos (by rw [hlast, h10])]
              exact ext_list (by rw [extract_list, List.drop_zero, str_toList, List.dropLast_eq_take, toList_length]))
            clear hWN hz h10 hlast
            go_wp2_with fail
            refine HTR.out.mono ?_
            rintro e w1 ⟨u, rfl, hn1, hb1⟩
            have HN1 : Hid (NodesIn w1 u (plainP s.data.toList)) := hide (hn1.mono (fun _ _ => rfl) (fun b hb => hb.2))
            have HB1 := hide (bl_two HBW.out hb1)
            clear hn1 hb1
            go_wp2_with fail
            refine (HTX.out u w1 HN1.out).mono ?_
            rintro e w2 ⟨rfl, hb2⟩
            have HB2 := hide (bl_two HB1.out hb2)
            clear hb2
            rw [HWS.out]
            go_wp2_with fail
            refine (HLV.out w2 HB2.out).mono ?_
            rintro e w3 ⟨rfl, hb⟩
            go_wp2_with fail
            go_ret
            exact ⟨rfl, hb⟩
          · have u4 : ((s[s.size - 1].toNat : Int) == 10) = false := tF 10 h10 (by decide)
            have HWS : Hid (WN = s) := hide (by
              rw [hWN]
              unfold lessLF
              rw [if_neg (by rw [hlast]; intro e; exact h10 (Option.some.inj e)), str_of])
            rw [HWS.out] at HTX q1
            clear hWN hz h10 hlast
            go_wp2_with fail
            refine HTR.out.mono ?_
            rintro e w1 ⟨u, rfl, hn1, hb1⟩
            have HN1 : Hid (NodesIn w1 u (plainP s.data.toList)) := hide (hn1.mono (fun _ _ => rfl) (fun b hb => hb.2))
            have HB1 := hide (bl_two HBW.out hb1)
            clear hn1 hb1
            go_wp2_with fail
            refine (HTX.out u w1 HN1.out).mono ?_
            rintro e w2 ⟨rfl, hb2⟩
            have HB2 := hide (bl_two HB1.out hb2)
            clear hb2
            skip
            go_wp2_with fail
            refine (HLV.out w2 HB2.out).mono ?_
            rintro e w3 ⟨rfl, hb⟩
            go_wp2_with fail
            go_ret
            exact ⟨rfl, hb⟩
end Go.Proofs.Ytdeaofnhdbhknaa
