/- WALKS of the reference of layer 7: Trim, pieces. No statement is proved here. -/
import Derived.Test.YtienjpelmbldpaaGreatDoorBaseO
import Derived.Test.YtienjpelmbldpaaGreatDoorRef05
namespace Go.Proofs.YtienjpelmbldpaaGreatDoor
open Go.RowKit
set_option linter.unusedVariables false
set_option linter.unusedSimpArgs false
set_option maxRecDepth 100000
theorem trim_comm7 (p : UInt8 → Bool) (l : List UInt8) : ((l.dropWhile p).reverse.dropWhile p).reverse = ((l.reverse.dropWhile p).reverse).dropWhile p := by
  induction l with
  | nil => rfl
  | cons a r ih =>
    cases ha : p a with
    | true =>
      rw [List.dropWhile_cons_of_pos ha, ih, List.reverse_cons, List.dropWhile_append]
      by_cases he : (r.reverse.dropWhile p).isEmpty
      · rw [if_pos he]; have := List.isEmpty_iff.1 he; rw [this]; simp [ha]
      · rw [if_neg he, List.reverse_append]; simp [ha]
    | false =>
      rw [List.dropWhile_cons_of_neg (by simp [ha]), List.reverse_cons, List.dropWhile_append]
      by_cases he : (r.reverse.dropWhile p).isEmpty
      · rw [if_pos he]; simp [ha]
      · rw [if_neg he, List.reverse_append]; simp [ha]
theorem ws_contains7 (c : UInt8) : [(32 : UInt8), 9, 10, 13].contains c = wsB c :=
  u8_all (p := fun c => [(32 : UInt8), 9, 10, 13].contains c = wsB c) (by decide +kernel) c
def left7 (l : List UInt8) : List UInt8 := l.dropWhile wsB
def right7 (l : List UInt8) : List UInt8 := (l.reverse.dropWhile wsB).reverse
theorem trP_lr (l : List UInt8) : trP l = right7 (left7 l) := by
  have e : (fun x => [(32 : UInt8), 9, 10, 13].contains x) = wsB := funext ws_contains7
  unfold trP Lib.trimS Lib.trimLeftS Lib.trimRightS right7 left7
  rw [e]; exact (trim_comm7 wsB l).symm
theorem left7_yes {c : UInt8} {r : List UInt8} (h : wsB c = true) : left7 (c :: r) = left7 r := List.dropWhile_cons_of_pos h
theorem left7_no {c : UInt8} {r : List UInt8} (h : wsB c = false) : left7 (c :: r) = c :: r := List.dropWhile_cons_of_neg (by simp [h])
theorem right7_yes {c : UInt8} {r : List UInt8} (h : wsB c = true) : right7 (r ++ [c]) = right7 r := by
  unfold right7; rw [List.reverse_append]; exact congrArg _ (List.dropWhile_cons_of_pos h)
theorem right7_no {c : UInt8} {r : List UInt8} (h : wsB c = false) : right7 (r ++ [c]) = r ++ [c] := by
  unfold right7; rw [List.reverse_append]
  show (List.dropWhile wsB (c :: r.reverse)).reverse = _
  rw [List.dropWhile_cons_of_neg (by simp [h])]; simp
def sz7 (v : Value) : Nat := match v with | .string x => x.size | _ => 0
theorem last_snoc7 (s : ByteArray) (h : 0 < s.size) : s.data.toList = (s.extract 0 (s.size - 1)).data.toList ++ [s[s.size - 1]'(by omega)] := by
  have e := take_snoc s (s.size - 1) (by omega)
  rw [Nat.sub_add_cancel h, List.take_of_length_le (by rw [toList_length]; exact Nat.le_refl _)] at e
  rw [extract_list, List.drop_zero]; exact e
theorem tail_cons7 (s : ByteArray) (h : 0 < s.size) : s.data.toList = s[0] :: (s.extract 1 s.size).data.toList := by
  have e := drop_cons s 0 h
  rw [List.drop_zero] at e
  rw [extract_end]; exact e
set_option maxHeartbeats 1000000 in
theorem trim07_any (s : ByteArray) (w : World) (hs : s.size ≤ maxLen) :
    Calls Tryz.prog 28 #[.string s] w fun e w' => e = .returned (.string (str (trP s.data.toList))) ∧ w = w' := by
  have hsm : s.size < 9223372036854775808 := by unfold maxLen at hs; omega
  have HT := hide (trP_lr s.data.toList)
  go_enter Tryz.func28, Tryz.ntmps28
  go_wp2
  go_loop [0] (fun v => ∃ x : ByteArray, v = .string x ∧ x.size ≤ s.size ∧ left7 x.data.toList = left7 s.data.toList) (fun v => sz7 v)
  case atStart => exact ⟨s, rfl, Nat.le_refl _, rfl⟩
  case round =>
    obtain ⟨x, rfl, hx, hd⟩ := hrel
    have HD := hide hd
    clear hd
    by_cases hlt : 0 < x.size
    · have hc := tail_cons7 x hlt
      cases hw : wsB x[0] with
      | true =>
        have HN : Hid (left7 (x.extract 1 x.size).data.toList = left7 s.data.toList) := hide (by rw [← HD.out, hc, left7_yes hw])
        have HW := hide hw
        clear hc hw
        go_wp2_with fail
        refine (white05_any _ _).mono ?_
        rintro e w1 ⟨rfl, rfl⟩
        rw [HW.out]
        go_wp2_with fail
        go_round
        case rel => exact ⟨_, rfl, by rw [ByteArray.size_extract]; omega, HN.out⟩
        case measure => simp [sz7]; omega
      | false =>
        have HL : Hid (left7 s.data.toList = x.data.toList) := hide (by rw [← HD.out, hc, left7_no hw])
        have HW := hide hw
        clear hc hw
        go_wp2_with fail
        refine (white05_any _ _).mono ?_
        rintro e w1 ⟨rfl, rfl⟩
        rw [HW.out]
        go_wp2_with fail
        go_loop [0] (fun v => ∃ y : ByteArray, v = .string y ∧ y.size ≤ s.size ∧ right7 y.data.toList = right7 x.data.toList) (fun v => sz7 v)
        case atStart => exact ⟨x, rfl, hx, rfl⟩
        case round =>
          obtain ⟨y, rfl, hy, hd⟩ := hrel
          have HD2 := hide hd
          clear hd
          by_cases hlt2 : 0 < y.size
          · have hc := last_snoc7 y hlt2
            cases hw : wsB (y[y.size - 1]'(by omega)) with
            | true =>
              have HN : Hid (right7 (y.extract 0 (y.size - 1)).data.toList = right7 x.data.toList) := hide (by rw [← HD2.out, hc, right7_yes hw])
              have HW := hide hw
              clear hc hw
              go_wp2_with fail
              refine (white05_any _ _).mono ?_
              rintro e w1 ⟨rfl, rfl⟩
              rw [HW.out]
              go_wp2_with fail
              go_round
              case rel => exact ⟨_, rfl, by rw [ByteArray.size_extract]; omega, HN.out⟩
              case measure => simp [sz7]; omega
            | false =>
              have HR : Hid (trP s.data.toList = y.data.toList) := hide (by rw [HT.out, HL.out, ← HD2.out]; rw [hc, right7_no hw])
              have HW := hide hw
              clear hc hw
              go_wp2_with fail
              refine (white05_any _ _).mono ?_
              rintro e w1 ⟨rfl, rfl⟩
              rw [HW.out]
              go_wp2_with fail
              go_ret
              exact ⟨by rw [HR.out]; rfl, rfl⟩
          · have HR : Hid (trP s.data.toList = y.data.toList) := hide (by
              have e : y.data.toList = [] := List.eq_nil_of_length_eq_zero (by rw [toList_length]; omega)
              rw [HT.out, HL.out, ← HD2.out, e]; rfl)
            go_wp2_with fail
            go_ret
            exact ⟨by rw [HR.out]; rfl, rfl⟩
    · have HL : Hid (left7 s.data.toList = x.data.toList) := hide (by
        have e : x.data.toList = [] := List.eq_nil_of_length_eq_zero (by rw [toList_length]; omega)
        rw [← HD.out, e]; rfl)
      go_wp2_with fail
      go_loop [0] (fun v => ∃ y : ByteArray, v = .string y ∧ y.size ≤ s.size ∧ right7 y.data.toList = right7 x.data.toList) (fun v => sz7 v)
      case atStart => exact ⟨x, rfl, hx, rfl⟩
      case round =>
        obtain ⟨y, rfl, hy, hd⟩ := hrel
        have HD2 := hide hd
        clear hd
        by_cases hlt2 : 0 < y.size
        · have hc := last_snoc7 y hlt2
          cases hw : wsB (y[y.size - 1]'(by omega)) with
          | true =>
            have HN : Hid (right7 (y.extract 0 (y.size - 1)).data.toList = right7 x.data.toList) := hide (by rw [← HD2.out, hc, right7_yes hw])
            have HW := hide hw
            clear hc hw
            go_wp2_with fail
            refine (white05_any _ _).mono ?_
            rintro e w1 ⟨rfl, rfl⟩
            rw [HW.out]
            go_wp2_with fail
            go_round
            case rel => exact ⟨_, rfl, by rw [ByteArray.size_extract]; omega, HN.out⟩
            case measure => simp [sz7]; omega
          | false =>
            have HR : Hid (trP s.data.toList = y.data.toList) := hide (by rw [HT.out, HL.out, ← HD2.out]; rw [hc, right7_no hw])
            have HW := hide hw
            clear hc hw
            go_wp2_with fail
            refine (white05_any _ _).mono ?_
            rintro e w1 ⟨rfl, rfl⟩
            rw [HW.out]
            go_wp2_with fail
            go_ret
            exact ⟨by rw [HR.out]; rfl, rfl⟩
        · have HR : Hid (trP s.data.toList = y.data.toList) := hide (by
            have e : y.data.toList = [] := List.eq_nil_of_length_eq_zero (by rw [toList_length]; omega)
            rw [HT.out, HL.out, ← HD2.out, e]; rfl)
          go_wp2_with fail
          go_ret
          exact ⟨by rw [HR.out]; rfl, rfl⟩
/-! ### pieces -/
/-- cut at each `;` that is not quoted; q: is it quoted, p: does the byte ahead pair the next one? -/
def pcR (p q : Bool) (cur : List UInt8) : List UInt8 → List (List UInt8)
  | [] => [cur]
  | c :: r =>
    if p then pcR false q (cur ++ [c]) r
    else if q && c == 92 then pcR true q (cur ++ [c]) r
    else if c == 34 then pcR false (!q) (cur ++ [c]) r
    else if c == 59 && !q then cur :: pcR false q [] r
    else pcR false q (cur ++ [c]) r
theorem pcR_cons (p q : Bool) (cur r : List UInt8) (c : UInt8) : pcR p q cur (c :: r) =
    if p then pcR false q (cur ++ [c]) r
    else if q && c == 92 then pcR true q (cur ++ [c]) r
    else if c == 34 then pcR false (!q) (cur ++ [c]) r
    else if c == 59 && !q then cur :: pcR false q [] r
    else pcR false q (cur ++ [c]) r := by rw [pcR]
theorem qrd_cons7 (p : Bool) (c : UInt8) (r : List UInt8) : qrd p (c :: r) =
    if !p && c == 34 then ([], 1)
    else if !p && c == 92 then ((qrd true r).1, (qrd true r).2 + 1)
    else (c :: (qrd false r).1, (qrd false r).2 + 1) := by rw [qrd]
theorem pcR_eq (n : Nat) : ∀ l : List UInt8, l.length ≤ n → (∀ cur, pcR false false cur l = pcL cur l) ∧ (∀ p cur, pcR p true cur l = pcL (cur ++ l.take (qrd p l).2) (l.drop (qrd p l).2)) := by
  induction n with
  | zero =>
    intro l hl
    have : l = [] := List.eq_nil_of_length_eq_zero (by omega)
    subst this
    exact ⟨fun cur => by rw [pcL_nil]; rfl, fun p cur => by
      show [cur] = pcL (cur ++ []) []
      rw [List.append_nil, pcL_nil]⟩
  | succ n ih =>
    intro l hl
    cases l with
    | nil =>
      exact ⟨fun cur => by rw [pcL_nil]; rfl, fun p cur => by
        show [cur] = pcL (cur ++ []) []
        rw [List.append_nil, pcL_nil]⟩
    | cons c r =>
      obtain ⟨i1, i2⟩ := ih r (by simp at hl; omega)
      refine ⟨fun cur => ?_, fun p cur => ?_⟩
      · unfold pcR
        simp only [Bool.false_eq_true, if_false, Bool.false_and, Bool.not_false]
        by_cases h34 : c = 34
        · subst h34
          rw [if_pos (by decide), i2, pcL_quote]
          show _ = pcL (cur ++ (34 :: r).take ((qrd false r).2 + 1)) ((34 :: r).drop ((qrd false r).2 + 1))
          rw [List.take_succ_cons, List.drop_succ_cons, List.append_assoc]; rfl
        · rw [if_neg (by simpa using h34)]
          by_cases h59 : c = 59
          · subst h59
            rw [if_pos (by decide), i1, pcL_semi]
          · rw [if_neg (by simpa using h59), i1, pcL_other cur h34 h59]
      · cases p with
        | true =>
          unfold pcR
          rw [if_pos rfl, i2]
          have e : qrd true (c :: r) = (c :: (qrd false r).1, (qrd false r).2 + 1) := by rw [qrd_cons7]; rfl
          rw [e]
          simp only
          rw [List.take_succ_cons, List.drop_succ_cons, List.append_assoc]; rfl
        | false =>
          unfold pcR
          simp only [Bool.false_eq_true, if_false, Bool.true_and, Bool.not_true, Bool.and_false]
          by_cases h34 : c = 34
          · subst h34
            have e : qrd false (34 :: r) = ([], 1) := by rw [qrd_cons7]; rfl
            rw [if_neg (by decide), if_pos (by decide), i1, e]
            rfl
          · by_cases h92 : c = 92
            · subst h92
              have e : qrd false (92 :: r) = ((qrd true r).1, (qrd true r).2 + 1) := by rw [qrd_cons7]; rfl
              rw [if_pos (by decide), i2, e]
              simp only
              rw [List.take_succ_cons, List.drop_succ_cons, List.append_assoc]; rfl
            · have b34 : (c == 34) = false := beq_eq_false_iff_ne.2 h34
              have b92 : (c == 92) = false := beq_eq_false_iff_ne.2 h92
              have e : qrd false (c :: r) = (c :: (qrd false r).1, (qrd false r).2 + 1) := by rw [qrd_cons7, b34, b92]; rfl
              rw [b92, b34, if_neg (by decide), if_neg (by decide), i2, e]
              simp only
              rw [List.take_succ_cons, List.drop_succ_cons, List.append_assoc]; rfl
theorem pcR_pcL (l : List UInt8) : pcR false false [] l = pcL [] l := (pcR_eq l.length l (Nat.le_refl _)).1 []
theorem pcR_esc {cur r : List UInt8} {c : UInt8} {d : UInt8} (h : c = 92) : pcR false true cur (c :: d :: r) = pcR false true (cur ++ [c] ++ [d]) r := by subst h; rfl
theorem pcR_esc1 {cur : List UInt8} {c : UInt8} (h : c = 92) : pcR false true cur [c] = [cur ++ [c]] := by subst h; rfl
theorem pcR_quote (q : Bool) {cur r : List UInt8} {c : UInt8} (h : c = 34) : pcR false q cur (c :: r) = pcR false (!q) (cur ++ [c]) r := by subst h; cases q <;> rfl
theorem pcR_semi {cur r : List UInt8} {c : UInt8} (h : c = 59) : pcR false false cur (c :: r) = cur :: pcR false false [] r := by subst h; rfl
theorem pcR_next (q : Bool) {cur r : List UInt8} {c : UInt8} (h34 : c ≠ 34) (h92 : q = true → c ≠ 92) (h59 : q = false → c ≠ 59) : pcR false q cur (c :: r) = pcR false q (cur ++ [c]) r := by
  have b34 : (c == 34) = false := beq_eq_false_iff_ne.2 h34
  cases q with
  | true =>
    have b92 : (c == 92) = false := beq_eq_false_iff_ne.2 (h92 rfl)
    rw [pcR_cons, b34, b92]; simp
  | false =>
    have b59 : (c == 59) = false := beq_eq_false_iff_ne.2 (h59 rfl)
    rw [pcR_cons, b34, b59]; simp
theorem pcL_count_aux (n : Nat) : ∀ (l cur : List UInt8), l.length ≤ n → (pcL cur l).length ≤ l.length + 1 := by
  induction n with
  | zero =>
    intro l cur hl
    have : l = [] := List.eq_nil_of_length_eq_zero (by omega)
    subst this
    rw [pcL_nil]; simp
  | succ n ih =>
    intro l cur hl
    cases l with
    | nil => rw [pcL_nil]; simp
    | cons c r =>
      rw [List.length_cons] at hl
      by_cases h34 : c = 34
      · subst h34
        rw [pcL_quote]
        have h1 := readQ_pos r
        have h2 := ih ((34 :: r).drop (readQ (34 :: r)).2) (cur ++ (34 :: r).take (readQ (34 :: r)).2) (by rw [List.length_drop, List.length_cons]; omega)
        rw [List.length_drop] at h2
        omega
      · by_cases h59 : c = 59
        · subst h59
          rw [pcL_semi]
          have := ih r [] (by omega)
          simp only [List.length_cons]; omega
        · rw [pcL_other cur h34 h59]
          have := ih r (cur ++ [c]) (by omega)
          simp only [List.length_cons]; omega
theorem pcL_count (l : List UInt8) : (pcL [] l).length ≤ l.length + 1 := pcL_count_aux l.length l [] (Nat.le_refl _)
set_option maxHeartbeats 4000000 in
theorem pieces07_any (s : ByteArray) (w : World) (hs : s.size ≤ 1048576) :
    Calls Tryz.prog 23 #[.string s] w fun e w' => ∃ (v : Value) (ps : List ByteArray), e = .returned v ∧ SBuf w.heap.size v ps w w' ∧ ps.map (fun x => x.data.toList) = pcL [] s.data.toList ∧ 1 ≤ ps.length ∧ ps.length ≤ s.size + 1 := by
  have HB0 := hide (SBuf.nil (Below.refl w.heap.size w) (Nat.le_refl _))
  rw [← pcR_pcL]
  go_enter Tryz.func23, Tryz.ntmps23
  go_wp2_with fail
  go_loopw [3, 4, 5, 6] (fun v qv bv iv wr => ∃ (k b : Nat) (q : Bool) (ps : List ByteArray), b ≤ k ∧ b ≤ s.size ∧ k ≤ s.size + 1 ∧ qv = .bool q ∧ bv = .int .i64 b ∧ iv = .int .i64 k ∧ Hid (SBuf w.heap.size v ps w wr) ∧ Hid (ps.length ≤ k) ∧
    Hid (ps.map (fun x => x.data.toList) ++ pcR false q (s.extract b k).data.toList (s.data.toList.drop k) = pcR false false [] s.data.toList)) (fun _ _ _ iv _ => s.size + 1 - (intOf iv).toNat)
  case atStart => exact ⟨0, 0, false, [], Nat.le_refl _, Nat.zero_le _, Nat.zero_le _, rfl, rfl, rfl, HB0, hide (Nat.le_refl _), hide (by rw [extract_none]; rfl)⟩
  case round =>
    obtain ⟨k, b, q, ps, hbk, hbs, hk, rfl, rfl, rfl, HB, HL, HG⟩ := hrel
    by_cases hlt : k < s.size
    · have hdr := drop_cons s k hlt
      have hG := HG.out
      rw [hdr] at hG
      have hsn := mid_snoc s b k 1 hbk (by omega)
      rw [hdr] at hsn
      simp only [List.take_succ_cons, List.take_zero] at hsn
      have HNO : Hid (ps.map (fun x => x.data.toList) ++ pcR false q ((s.extract b k).data.toList ++ [s[k]]) (s.data.toList.drop (k + 1)) = pcR false false [] s.data.toList → ps.map (fun x => x.data.toList) ++ pcR false q (s.extract b (k + 1)).data.toList (s.data.toList.drop (k + 1)) = pcR false false [] s.data.toList) := hide (fun h => by rw [← hsn]; exact h)
      have HQO : Hid (ps.map (fun x => x.data.toList) ++ pcR false (!q) ((s.extract b k).data.toList ++ [s[k]]) (s.data.toList.drop (k + 1)) = pcR false false [] s.data.toList → ps.map (fun x => x.data.toList) ++ pcR false (!q) (s.extract b (k + 1)).data.toList (s.data.toList.drop (k + 1)) = pcR false false [] s.data.toList) := hide (fun h => by rw [← hsn]; exact h)
      by_cases h92 : s[k] = 92
      · have t92 : ((s[k].toNat : Int) == 92) = true := tT 92 h92 (by omega)
        have t34 : ((s[k].toNat : Int) == 34) = false := tF 34 (by rw [h92]; decide) (by omega)
        have t59 : ((s[k].toNat : Int) == 59) = false := tF 59 (by rw [h92]; decide) (by omega)
        cases q with
        | true =>
          have HGN : Hid (ps.map (fun x => x.data.toList) ++ pcR false true (s.extract b (k + 2)).data.toList (s.data.toList.drop (k + 2)) = pcR false false [] s.data.toList) := hide (by
            rw [← hG]
            by_cases h2 : k + 1 < s.size
            · have hs2 := mid_snoc s b (k + 1) 1 (by omega) (by omega)
              rw [drop_cons s (k + 1) h2] at hs2 ⊢
              simp only [List.take_succ_cons, List.take_zero] at hs2
              rw [pcR_esc h92, ← hs2, ← hsn]
            · rw [drop_nil s (k + 1) (by omega), drop_nil s (k + 2) (by omega), pcR_esc1 h92]
              have e : (s.extract b (k + 2)).data.toList = (s.extract b (k + 1)).data.toList := by
                rw [extract_list, extract_list, List.take_of_length_le (by rw [toList_length]; omega), List.take_of_length_le (by rw [toList_length]; omega)]
              rw [e, ← hsn]; rfl)
          clear hdr hG hsn h92 HNO HQO
          go_wp2_with fail
          go_roundw
          case rel => exact ⟨k + 2, b, true, ps, by omega, hbs, by omega, rfl, rfl, by go_num, HB, hide (by have := HL.out; omega), HGN⟩
          case measure => simp [intOf]; omega
        | false =>
          have HGN : Hid (ps.map (fun x => x.data.toList) ++ pcR false false (s.extract b (k + 1)).data.toList (s.data.toList.drop (k + 1)) = pcR false false [] s.data.toList) := hide (HNO.out (by
            rw [← hG, pcR_next false (by rw [h92]; decide) (fun e => by cases e) (fun _ => by rw [h92]; decide)]))
          clear hdr hG hsn h92 HNO HQO
          go_wp2_with fail
          go_roundw
          case rel => exact ⟨k + 1, b, false, ps, by omega, hbs, by omega, rfl, rfl, by go_num, HB, hide (by have := HL.out; omega), HGN⟩
          case measure => simp [intOf]; omega
      · have t92 : ((s[k].toNat : Int) == 92) = false := tF 92 h92 (by omega)
        by_cases h34 : s[k] = 34
        · have t34 : ((s[k].toNat : Int) == 34) = true := tT 34 h34 (by omega)
          have t59 : ((s[k].toNat : Int) == 59) = false := tF 59 (by rw [h34]; decide) (by omega)
          have HGN : Hid (ps.map (fun x => x.data.toList) ++ pcR false (!q) (s.extract b (k + 1)).data.toList (s.data.toList.drop (k + 1)) = pcR false false [] s.data.toList) := hide (HQO.out (by
            rw [← hG, pcR_quote q h34]))
          clear hdr hG hsn h92 h34 HNO HQO
          cases q
          all_goals
            go_wp2_with fail
            go_roundw
            case rel => exact ⟨k + 1, b, _, ps, by omega, hbs, by omega, rfl, rfl, by go_num, HB, hide (by have := HL.out; omega), HGN⟩
            case measure => simp [intOf]; omega
        · have t34 : ((s[k].toNat : Int) == 34) = false := tF 34 h34 (by omega)
          by_cases h59 : s[k] = 59
          · have t59 : ((s[k].toNat : Int) == 59) = true := tT 59 h59 (by omega)
            cases q with
            | true =>
              have HGN : Hid (ps.map (fun x => x.data.toList) ++ pcR false true (s.extract b (k + 1)).data.toList (s.data.toList.drop (k + 1)) = pcR false false [] s.data.toList) := hide (HNO.out (by
                rw [← hG, pcR_next true h34 (fun _ => h92) (fun e => by cases e)]))
              clear hdr hG hsn h92 h34 h59 HNO HQO
              go_wp2_with fail
              go_roundw
              case rel => exact ⟨k + 1, b, true, ps, by omega, hbs, by omega, rfl, rfl, by go_num, HB, hide (by have := HL.out; omega), HGN⟩
              case measure => simp [intOf]; omega
            | false =>
              have HGN : Hid ((ps ++ [s.extract b k]).map (fun x => x.data.toList) ++ pcR false false (s.extract (k + 1) (k + 1)).data.toList (s.data.toList.drop (k + 1)) = pcR false false [] s.data.toList) := hide (by
                rw [← hG, pcR_semi h59, extract_none, List.map_append, List.append_assoc]; rfl)
              have k1 : (k : Int) ≤ s.size := by omega
              have b1 : (b : Int) ≤ k := by omega
              have HLN : Hid (ps.length + 1 ≤ 8796093022208) := hide (by have := HL.out; omega)
              clear hdr hG hsn h92 h34 h59 HNO HQO
              go_wp2_with (refine wpList_strs rfl _ _ rfl w.heap.size u3 ps rfl w wr (s.extract b k) HB.out rfl HLN.out ?_; intro v2 w2 hb2; have HB2 := hide hb2; clear hb2)
              go_roundw
              case rel => exact ⟨k + 1, k + 1, false, _, Nat.le_refl _, by omega, by omega, rfl, by go_num, by go_num, HB2, hide (by have := HL.out; simp; omega), HGN⟩
              case measure => simp [intOf]; omega
          · have t59 : ((s[k].toNat : Int) == 59) = false := tF 59 h59 (by omega)
            have HGN : Hid (ps.map (fun x => x.data.toList) ++ pcR false q (s.extract b (k + 1)).data.toList (s.data.toList.drop (k + 1)) = pcR false false [] s.data.toList) := hide (HNO.out (by
              rw [← hG, pcR_next q h34 (fun _ => h92) (fun _ => h59)]))
            clear hdr hG hsn h92 h34 h59 HNO HQO
            cases q
            all_goals
              go_wp2_with fail
              go_roundw
              case rel => exact ⟨k + 1, b, _, ps, by omega, hbs, by omega, rfl, rfl, by go_num, HB, hide (by have := HL.out; omega), HGN⟩
              case measure => simp [intOf]; omega
    · have HGE : Hid ((ps ++ [s.extract b s.size]).map (fun x => x.data.toList) = pcR false false [] s.data.toList) := hide (by
        have := HG.out
        have e : (s.extract b k).data.toList = (s.extract b s.size).data.toList := by
          rw [extract_list, extract_list, List.take_of_length_le (by rw [toList_length]; omega), List.take_of_length_le (by rw [toList_length]; omega)]
        rw [drop_nil s k (by omega), e] at this
        rw [← this, List.map_append]; rfl)
      have b1 : (b : Int) ≤ s.size := by omega
      have HLN : Hid (ps.length + 1 ≤ 8796093022208) := hide (by have := HL.out; omega)
      have HLE : Hid ((ps ++ [s.extract b s.size]).length ≤ s.size + 2) := hide (by have := HL.out; simp; omega)
      have HLL : Hid (ps.length + 1 ≤ s.size + 1) := hide (by
        have h1 := HGE.out
        have h2 := congrArg List.length h1
        rw [pcR_pcL] at h2
        have h3 := pcL_count s.data.toList
        rw [toList_length] at h3
        simp at h2
        omega)
      go_wp2_with (refine wpList_strs rfl _ _ rfl w.heap.size u3 ps rfl w wr (s.extract b s.size) HB.out rfl HLN.out ?_; intro v2 w2 hb2; have HB2 := hide hb2; clear hb2)
      go_ret
      exact ⟨_, _, rfl, HB2.out, HGE.out, by simp, by have := HLL.out; simp; omega⟩
end Go.Proofs.YtienjpelmbldpaaGreatDoor
