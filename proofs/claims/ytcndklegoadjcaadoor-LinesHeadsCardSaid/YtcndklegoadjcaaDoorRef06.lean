/- WALKS of the reference of layer 6: white, name, Trim. No statement is proved here. -/
import Derived.Test.YtcndklegoadjcaaDoorLinesW
namespace Go.Proofs.YtcndklegoadjcaaDoor
open Go.RowKit
set_option linter.unusedVariables false
set_option linter.unusedSimpArgs false
set_option maxRecDepth 100000

theorem white06_any (c : UInt8) (w : World) :
    Calls Tryd.prog 27 #[.int .u8 c.toNat] w fun e w' => e = .returned (.bool (wsT c)) ∧ w = w' := by
  by_cases h1 : c = 32
  · have t1 : ((c.toNat : Int) == 32) = true := tT 32 h1 (by omega)
    have HE : Hid (wsT c = true) := hide (by rw [h1]; decide)
    clear h1
    go_enter Tryd.func27, Tryd.ntmps27
    go_wp2
    go_ret
    exact ⟨ret_bool HE.out.symm, rfl⟩
  have t1 : ((c.toNat : Int) == 32) = false := tF 32 h1 (by omega)
  have hb : ((c.toNat : Int) == 9) = wsT c := by
    by_cases h4 : c = 9
    · have e : ((c.toNat : Int) == 9) = true := tT 9 h4 (by omega)
      rw [e, h4]; rfl
    · have e : ((c.toNat : Int) == 9) = false := tF 9 h4 (by omega)
      rw [e]
      simp [wsT, h1, h4]
  have HB := hide hb
  clear h1 hb
  go_enter Tryd.func27, Tryd.ntmps27
  go_wp2
  go_ret
  exact ⟨ret_bool HB.out, rfl⟩

/-- a byte that a name may have -/
def nmB (c : UInt8) : Bool := (decide (33 ≤ (c.toNat : Int)) && decide ((c.toNat : Int) ≤ 126)) && c != 58
theorem name_all (l : List UInt8) : nameB l = (!l.isEmpty && l.all nmB) := by
  unfold nameB withinB nmB hasC
  congr 1
  induction l with
  | nil => rfl
  | cons c r ih =>
    rw [List.all_cons, List.all_cons, ← ih]
    by_cases h : c = 58
    · subst h; simp
    · have h2 : ((58 : UInt8) == c) = false := by simpa using fun e => h e.symm
      have h3 : ¬ (58 : UInt8) = c := fun e => h e.symm
      cases decide (33 ≤ (c.toNat : Int)) <;> cases decide ((c.toNat : Int) ≤ 126) <;> simp [h, h3]
theorem nm_all {l r : List UInt8} {k : Nat} {c : UInt8} (h : l.drop k = c :: r) : (l.drop k).all nmB = (nmB c && (l.drop (k + 1)).all nmB) := by
  have hd : l.drop (k + 1) = r := by rw [← List.drop_drop, h]; rfl
  rw [h, hd]; rfl
set_option maxHeartbeats 1000000 in
theorem name06_any (s : ByteArray) (w : World) (hs : s.size ≤ maxLen) :
    Calls Tryd.prog 36 #[.string s] w fun e w' => e = .returned (.bool (nameB s.data.toList)) ∧ w = w' := by
  have hsm : s.size < 9223372036854775808 := by unfold maxLen at hs; omega
  go_enter Tryd.func36, Tryd.ntmps36
  go_wp2
  go_loop [3] (fun i => ∃ k : Nat, k ≤ s.size ∧ i = .int .i64 k ∧ (s.data.toList.drop k).all nmB = s.data.toList.all nmB) (fun i => s.size - (intOf i).toNat)
  case atStart => exact ⟨0, Nat.zero_le _, rfl, rfl⟩
  case round =>
    obtain ⟨k, hk2, rfl, hd⟩ := hrel
    have HD := hide hd
    clear hd
    by_cases hlt : k < s.size
    · have hc := nm_all (drop_cons s k hlt)
      have hne : s.data.toList.isEmpty = false := by
        cases hx : s.data.toList with
        | nil => have := drop_cons s k hlt; rw [hx] at this; simp at this
        | cons _ _ => rfl
      cases hw : nmB s[k] with
      | false =>
        have HR : Hid (nameB s.data.toList = false) := hide (by rw [name_all, ← HD.out, hc, hw]; simp)
        by_cases h1 : (s[k].toNat : Int) < 33
        · have t1 : decide ((s[k].toNat : Int) < 33) = true := decide_eq_true h1
          clear hc hw hne h1
          go_wp2_with fail
          go_ret
          exact ⟨ret_bool HR.out.symm, rfl⟩
        have t1 : decide ((s[k].toNat : Int) < 33) = false := decide_eq_false h1
        by_cases h2 : 126 < (s[k].toNat : Int)
        · have t2 : decide ((s[k].toNat : Int) > 126) = true := decide_eq_true h2
          clear hc hw hne h1 h2
          go_wp2_with fail
          go_ret
          exact ⟨ret_bool HR.out.symm, rfl⟩
        have t2 : decide ((s[k].toNat : Int) > 126) = false := decide_eq_false h2
        have h3 : s[k] = 58 := by
          unfold nmB at hw
          rw [decide_eq_true (by omega : 33 ≤ (s[k].toNat : Int)), decide_eq_true (by omega : (s[k].toNat : Int) ≤ 126)] at hw
          simpa using hw
        have t3 : ((s[k].toNat : Int) == 58) = true := tT 58 h3 (by omega)
        clear hc hw hne h1 h2 h3
        go_wp2_with fail
        go_ret
        exact ⟨ret_bool HR.out.symm, rfl⟩
      | true =>
        have HN : Hid ((s.data.toList.drop (k + 1)).all nmB = s.data.toList.all nmB) := hide (by rw [← HD.out, hc, hw]; rfl)
        have h123 : 33 ≤ (s[k].toNat : Int) ∧ (s[k].toNat : Int) ≤ 126 ∧ s[k] ≠ 58 := by
          unfold nmB at hw
          simp only [Bool.and_eq_true, decide_eq_true_eq, bne_iff_ne] at hw
          exact ⟨hw.1.1, hw.1.2, hw.2⟩
        have t1 : decide ((s[k].toNat : Int) < 33) = false := decide_eq_false (by omega)
        have t2 : decide ((s[k].toNat : Int) > 126) = false := decide_eq_false (by omega)
        have t3 : ((s[k].toNat : Int) == 58) = false := tF 58 h123.2.2 (by omega)
        clear hc hw hne h123
        go_wp2_with fail
        go_round
        case rel => exact ⟨k + 1, by omega, by go_num, HN.out⟩
        case measure => simp [intOf]; omega
    · have HR : Hid (nameB s.data.toList = !s.data.toList.isEmpty) := hide (by rw [name_all, ← HD.out, drop_nil s k (by omega)]; simp)
      have HE : Hid ((!s.toList.isEmpty) = !s.data.toList.isEmpty) := hide (by rw [bytes_list])
      go_wp2_with fail
      go_ret
      exact ⟨ret_bool (HE.out.trans HR.out.symm), rfl⟩

theorem trim_comm (p : UInt8 → Bool) (l : List UInt8) : ((l.dropWhile p).reverse.dropWhile p).reverse = ((l.reverse.dropWhile p).reverse).dropWhile p := by
  induction l with
  | nil => rfl
  | cons a r ih =>
    cases ha : p a with
    | true =>
      rw [List.dropWhile_cons_of_pos ha, ih, List.reverse_cons, List.dropWhile_append]
      by_cases he : (r.reverse.dropWhile p).isEmpty
      · rw [if_pos he]; have := List.isEmpty_iff.1 he; rw [this]; simp [ha]
      · rw [if_neg he, List.reverse_append]; simp [ha]
    | false =>
      rw [List.dropWhile_cons_of_neg (by simp [ha]), List.reverse_cons, List.dropWhile_append]
      by_cases he : (r.reverse.dropWhile p).isEmpty
      · rw [if_pos he]; simp [ha]
      · rw [if_neg he, List.reverse_append]; simp [ha]
theorem ws_contains (c : UInt8) : [(32 : UInt8), 9].contains c = wsT c := by
  by_cases h : c = 32
  · subst h; rfl
  · by_cases h2 : c = 9
    · subst h2; rfl
    · simp [wsT, h, h2]
def leftT (l : List UInt8) : List UInt8 := l.dropWhile wsT
def rightT (l : List UInt8) : List UInt8 := (l.reverse.dropWhile wsT).reverse
theorem trimT_lr (l : List UInt8) : trimT l = rightT (leftT l) := by
  have e : (fun x => [(32 : UInt8), 9].contains x) = wsT := funext ws_contains
  unfold trimT Lib.trimS Lib.trimLeftS Lib.trimRightS rightT leftT
  rw [e]; exact (trim_comm wsT l).symm
theorem left_yes {c : UInt8} {r : List UInt8} (h : wsT c = true) : leftT (c :: r) = leftT r := List.dropWhile_cons_of_pos h
theorem left_no {c : UInt8} {r : List UInt8} (h : wsT c = false) : leftT (c :: r) = c :: r := List.dropWhile_cons_of_neg (by simp [h])
theorem right_yes {c : UInt8} {r : List UInt8} (h : wsT c = true) : rightT (r ++ [c]) = rightT r := by
  unfold rightT; rw [List.reverse_append]; exact congrArg _ (List.dropWhile_cons_of_pos h)
theorem right_no {c : UInt8} {r : List UInt8} (h : wsT c = false) : rightT (r ++ [c]) = r ++ [c] := by
  unfold rightT; rw [List.reverse_append]
  show (List.dropWhile wsT (c :: r.reverse)).reverse = _
  rw [List.dropWhile_cons_of_neg (by simp [h])]; simp
def szL (v : Value) : Nat := match v with | .string x => x.size | _ => 0
theorem last_snoc (s : ByteArray) (h : 0 < s.size) : s.data.toList = (s.extract 0 (s.size - 1)).data.toList ++ [s[s.size - 1]'(by omega)] := by
  have e := take_snoc s (s.size - 1) (by omega)
  rw [Nat.sub_add_cancel h, List.take_of_length_le (by rw [toList_length]; exact Nat.le_refl _)] at e
  rw [extract_list, List.drop_zero]; exact e
theorem tail_cons (s : ByteArray) (h : 0 < s.size) : s.data.toList = s[0] :: (s.extract 1 s.size).data.toList := by
  have e := drop_cons s 0 h
  rw [List.drop_zero] at e
  rw [extract_end]; exact e
set_option maxHeartbeats 1000000 in
theorem trim06_any (s : ByteArray) (w : World) (hs : s.size ≤ maxLen) :
    Calls Tryd.prog 29 #[.string s] w fun e w' => e = .returned (.string (str (trimT s.data.toList))) ∧ w = w' := by
  have hsm : s.size < 9223372036854775808 := by unfold maxLen at hs; omega
  have HT := hide (trimT_lr s.data.toList)
  go_enter Tryd.func29, Tryd.ntmps29
  go_wp2
  go_loop [0] (fun v => ∃ x : ByteArray, v = .string x ∧ x.size ≤ s.size ∧ leftT x.data.toList = leftT s.data.toList) (fun v => szL v)
  case atStart => exact ⟨s, rfl, Nat.le_refl _, rfl⟩
  case round =>
    obtain ⟨x, rfl, hx, hd⟩ := hrel
    have HD := hide hd
    clear hd
    by_cases hlt : 0 < x.size
    · have hc := tail_cons x hlt
      cases hw : wsT x[0] with
      | true =>
        have HN : Hid (leftT (x.extract 1 x.size).data.toList = leftT s.data.toList) := hide (by rw [← HD.out, hc, left_yes hw])
        have HW := hide hw
        clear hc hw
        go_wp2_with fail
        refine (white06_any _ _).mono ?_
        rintro e w1 ⟨rfl, rfl⟩
        rw [HW.out]
        go_wp2_with fail
        go_round
        case rel => exact ⟨_, rfl, by rw [ByteArray.size_extract]; omega, HN.out⟩
        case measure => simp [szL]; omega
      | false =>
        have HL : Hid (leftT s.data.toList = x.data.toList) := hide (by rw [← HD.out, hc, left_no hw])
        have HW := hide hw
        clear hc hw
        go_wp2_with fail
        refine (white06_any _ _).mono ?_
        rintro e w1 ⟨rfl, rfl⟩
        rw [HW.out]
        go_wp2_with fail
        go_loop [0] (fun v => ∃ y : ByteArray, v = .string y ∧ y.size ≤ s.size ∧ rightT y.data.toList = rightT x.data.toList) (fun v => szL v)
        case atStart => exact ⟨x, rfl, hx, rfl⟩
        case round =>
          obtain ⟨y, rfl, hy, hd⟩ := hrel
          have HD2 := hide hd
          clear hd
          by_cases hlt2 : 0 < y.size
          · have hc := last_snoc y hlt2
            cases hw : wsT (y[y.size - 1]'(by omega)) with
            | true =>
              have HN : Hid (rightT (y.extract 0 (y.size - 1)).data.toList = rightT x.data.toList) := hide (by rw [← HD2.out, hc, right_yes hw])
              have HW := hide hw
              clear hc hw
              go_wp2_with fail
              refine (white06_any _ _).mono ?_
              rintro e w1 ⟨rfl, rfl⟩
              rw [HW.out]
              go_wp2_with fail
              go_round
              case rel => exact ⟨_, rfl, by rw [ByteArray.size_extract]; omega, HN.out⟩
              case measure => simp [szL]; omega
            | false =>
              have HR : Hid (trimT s.data.toList = y.data.toList) := hide (by rw [HT.out, HL.out, ← HD2.out]; rw [hc, right_no hw])
              have HW := hide hw
              clear hc hw
              go_wp2_with fail
              refine (white06_any _ _).mono ?_
              rintro e w1 ⟨rfl, rfl⟩
              rw [HW.out]
              go_wp2_with fail
              go_ret
              exact ⟨by rw [HR.out]; rfl, rfl⟩
          · have HR : Hid (trimT s.data.toList = y.data.toList) := hide (by
              have e : y.data.toList = [] := List.eq_nil_of_length_eq_zero (by rw [toList_length]; omega)
              rw [HT.out, HL.out, ← HD2.out, e]; rfl)
            go_wp2_with fail
            go_ret
            exact ⟨by rw [HR.out]; rfl, rfl⟩
    · have HL : Hid (leftT s.data.toList = x.data.toList) := hide (by
        have e : x.data.toList = [] := List.eq_nil_of_length_eq_zero (by rw [toList_length]; omega)
        rw [← HD.out, e]; rfl)
      go_wp2_with fail
      go_loop [0] (fun v => ∃ y : ByteArray, v = .string y ∧ y.size ≤ s.size ∧ rightT y.data.toList = rightT x.data.toList) (fun v => szL v)
      case atStart => exact ⟨x, rfl, hx, rfl⟩
      case round =>
        obtain ⟨y, rfl, hy, hd⟩ := hrel
        have HD2 := hide hd
        clear hd
        by_cases hlt2 : 0 < y.size
        · have hc := last_snoc y hlt2
          cases hw : wsT (y[y.size - 1]'(by omega)) with
          | true =>
            have HN : Hid (rightT (y.extract 0 (y.size - 1)).data.toList = rightT x.data.toList) := hide (by rw [← HD2.out, hc, right_yes hw])
            have HW := hide hw
            clear hc hw
            go_wp2_with fail
            refine (white06_any _ _).mono ?_
            rintro e w1 ⟨rfl, rfl⟩
            rw [HW.out]
            go_wp2_with fail
            go_round
            case rel => exact ⟨_, rfl, by rw [ByteArray.size_extract]; omega, HN.out⟩
            case measure => simp [szL]; omega
          | false =>
            have HR : Hid (trimT s.data.toList = y.data.toList) := hide (by rw [HT.out, HL.out, ← HD2.out]; rw [hc, right_no hw])
            have HW := hide hw
            clear hc hw
            go_wp2_with fail
            refine (white06_any _ _).mono ?_
            rintro e w1 ⟨rfl, rfl⟩
            rw [HW.out]
            go_wp2_with fail
            go_ret
            exact ⟨by rw [HR.out]; rfl, rfl⟩
        · have HR : Hid (trimT s.data.toList = y.data.toList) := hide (by
            have e : y.data.toList = [] := List.eq_nil_of_length_eq_zero (by rw [toList_length]; omega)
            rw [HT.out, HL.out, ← HD2.out, e]; rfl)
          go_wp2_with fail
          go_ret
          exact ⟨by rw [HR.out]; rfl, rfl⟩
end Go.Proofs.YtcndklegoadjcaaDoor
