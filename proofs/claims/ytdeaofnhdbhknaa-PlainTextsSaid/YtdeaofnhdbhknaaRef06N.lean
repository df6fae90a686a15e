/- WALK of the reference of layer 6: Next. No statement is proved here. -/
import Derived.Test.YtdeaofnhdbhknaaLineP
import Derived.Test.YtdeaofnhdbhknaaSzL
namespace Go.Proofs.Ytdeaofnhdbhknaa
open Go.RowKit
set_option linter.unusedVariables false
set_option linter.unusedSimpArgs false
set_option maxRecDepth 100000

theorem ext_snoc (s : ByteArray) (a k : Nat) (ha : a ≤ k) (hk : k < s.size) : (s.extract a (k + 1)).data.toList = (s.extract a k).data.toList ++ [s[k]] := by
  rw [extract_list, extract_list, take_snoc s k hk, List.drop_append_of_le_length (by rw [List.length_take, toList_length]; omega)]
theorem ext_rest (s : ByteArray) (a k : Nat) (ha : a ≤ k) (hk : k ≤ s.size) : s.data.toList.drop a = (s.extract a k).data.toList ++ s.data.toList.drop k := by
  rw [extract_list, ← List.drop_append_of_le_length (by rw [List.length_take, toList_length]; omega), List.take_append_drop]
/-- what Next answers of what stands from place a on -/
def nextV (n : Nat) (l : List UInt8) : Value := .tuple #[.int .i64 ((n - (afterC 10 l).length : Nat) : Int), .string (str (lineL l)), .bool (hasC 10 l)]
theorem next_end (s : ByteArray) (a : Nat) (ha : a ≤ s.size) (h : (10 : UInt8) ∉ (s.extract a s.size).data.toList) :
    nextV s.size (s.data.toList.drop a) = .tuple #[.int .i64 s.size, .string (s.extract a s.size), .bool false] := by
  have e : s.data.toList.drop a = (s.extract a s.size).data.toList := (extract_end s a).symm
  rw [e]
  rcases cut_case 10 (s.extract a s.size).data.toList with ⟨_, _, h2⟩ | ⟨x, r, he, _⟩
  · unfold nextV lineL
    rw [h2, hasC_false h, if_neg (by decide), str_of]; rfl
  · exact absurd (by rw [he]; simp) h
theorem next_hit (s : ByteArray) (a k : Nat) (ha : a ≤ k) (hk : k < s.size) (h10 : s[k] = 10) (h : (10 : UInt8) ∉ (s.extract a k).data.toList) (b : ByteArray) (hb : b.data.toList = trimCR (s.extract a k).data.toList) :
    nextV s.size (s.data.toList.drop a) = .tuple #[.int .i64 ((k : Int) + 1), .string b, .bool true] := by
  have e : s.data.toList.drop a = (s.extract a k).data.toList ++ 10 :: s.data.toList.drop (k + 1) := by
    rw [ext_rest s a k ha (by omega), drop_cons s k hk, h10]
  obtain ⟨h1, h2⟩ := cut_here 10 (s.extract a k).data.toList (s.data.toList.drop (k + 1)) h
  have hc : hasC 10 (s.data.toList.drop a) = true := hasC_true (by rw [e]; simp)
  have hn : ((s.size - (s.data.toList.drop (k + 1)).length : Nat) : Int) = (k : Int) + 1 := by rw [List.length_drop, toList_length]; omega
  have hl : lineL (s.data.toList.drop a) = b.data.toList := by unfold lineL; rw [hc, if_pos rfl, e, h1, hb]
  unfold nextV
  rw [hl, hc, e, h2, hn, str_of]
theorem trim_no (s : ByteArray) (a k : Nat) (ha : a ≤ k) (hk : k ≤ s.size) (h : a < k → ∀ hh : k - 1 < s.size, s[k - 1] ≠ 13) : trimCR (s.extract a k).data.toList = (s.extract a k).data.toList := by
  unfold trimCR
  by_cases hlt : a < k
  · have e := ext_snoc s a (k - 1) (by omega) (by omega)
    rw [Nat.sub_add_cancel (by omega)] at e
    rw [e, List.getLast?_concat, if_neg (fun e => h hlt (by omega) (Option.some.inj e))]
  · rw [show a = k by omega, extract_none]; rfl
theorem trim_yes (s : ByteArray) (a k : Nat) (ha : a < k) (hk : k ≤ s.size) (h : s[k - 1]'(by omega) = 13) : (s.extract a (k - 1)).data.toList = trimCR (s.extract a k).data.toList := by
  have e := ext_snoc s a (k - 1) (by omega) (by omega)
  rw [Nat.sub_add_cancel (by omega), h] at e
  rw [e, trimCR_end]
theorem step10 (s : ByteArray) (a k : Nat) (ha : a ≤ k) (hk : k < s.size) (h : (10 : UInt8) ∉ (s.extract a k).data.toList) (h2 : s[k] ≠ 10) : (10 : UInt8) ∉ (s.extract a (k + 1)).data.toList := by
  rw [ext_snoc s a k ha hk, List.mem_append, List.mem_singleton]
  exact fun o => o.elim h (fun e => h2 e.symm)
set_option maxHeartbeats 1000000 in
theorem next06_any (s : ByteArray) (a : Nat) (w : World) (hs : s.size ≤ 70368744177664) (ha : a ≤ s.size) :
    Calls Try.prog 31 #[.string s, .int .i64 a] w fun e w' => e = .returned (nextV s.size (s.data.toList.drop a)) ∧ Below w.heap.size w w' := by
  have hsm : s.size < 9223372036854775807 := by omega
  have hst : Hid ((10 : UInt8) ∉ (s.extract a a).data.toList) := hide (by rw [extract_none]; simp)
  go_enter Try.func31, Try.ntmps31
  go_wp2
  go_loop [7] (fun i => ∃ k : Nat, a ≤ k ∧ k ≤ s.size ∧ i = .int .i64 k ∧ Hid ((10 : UInt8) ∉ (s.extract a k).data.toList)) (fun i => s.size - (intOf i).toNat)
  case atStart => exact ⟨a, Nat.le_refl _, ha, rfl, hst⟩
  case round =>
    obtain ⟨k, hk1, hk2, rfl, HD⟩ := hrel
    by_cases hlt : k < s.size
    · by_cases h10 : s[k] = 10
      · have t0 : ((s[k].toNat : Int) != 10) = false := by
          have e : ((s[k].toNat : Int) == 10) = true := tT 10 h10 (by omega)
          rw [bne, e]; rfl
        have HH := hide (next_hit s a k hk1 hlt h10 HD.out)
        have t1 : ((k : Int) == s.size) = false := by simp; omega
        clear h10
        by_cases hak : a < k
        · by_cases h13 : s[k - 1]'(by omega) = 13
          · have HV := hide (HH.out (s.extract a (k - 1)) (trim_yes s a k hak hk2 h13))
            have h13' := tT 13 h13 (by omega)
            have e1 : ((k : Int) - 1).toNat = k - 1 := by omega
            clear HH h13
            go_wp2_with fail
            go_quiet (fail)
            go_wp2_with fail
            go_ret3
            exact ⟨by rw [HV.out]; rfl, ⟨rfl, rfl, rfl, Nat.le_refl _, fun _ _ => rfl⟩⟩
          · have HV := hide (HH.out (s.extract a k) (trim_no s a k hk1 hk2 (fun _ _ => h13)).symm)
            have h13' := tF 13 h13 (by omega)
            have e1 : ((k : Int) - 1).toNat = k - 1 := by omega
            clear HH h13
            go_wp2_with fail
            go_quiet (fail)
            go_wp2_with fail
            go_ret3
            exact ⟨by rw [HV.out]; rfl, ⟨rfl, rfl, rfl, Nat.le_refl _, fun _ _ => rfl⟩⟩
        · have HV := hide (HH.out (s.extract a k) (trim_no s a k hk1 hk2 (fun h => absurd h hak)).symm)
          clear HH
          go_wp2_with fail
          go_quiet (fail)
          go_wp2_with fail
          go_ret3
          exact ⟨by rw [HV.out]; rfl, ⟨rfl, rfl, rfl, Nat.le_refl _, fun _ _ => rfl⟩⟩
      · have HN := hide (step10 s a k hk1 hlt HD.out h10)
        have t0 : ((s[k].toNat : Int) != 10) = true := by
          have e : ((s[k].toNat : Int) == 10) = false := tF 10 h10 (by omega)
          rw [bne, e]; rfl
        clear h10
        go_wp2_with fail
        go_round
        case rel => exact ⟨k + 1, by omega, by omega, by go_num, HN⟩
        case measure => simp [intOf]; omega
    · obtain rfl : k = s.size := by omega
      have HV := hide (next_end s a ha HD.out)
      go_wp2_with fail
      go_quiet (fail)
      go_wp2_with fail
      go_ret3
      exact ⟨by rw [HV.out]; rfl, ⟨rfl, rfl, rfl, Nat.le_refl _, fun _ _ => rfl⟩⟩
end Go.Proofs.Ytdeaofnhdbhknaa
