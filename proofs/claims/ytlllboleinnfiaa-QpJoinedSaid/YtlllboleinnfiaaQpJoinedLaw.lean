/- WALK of the law QpJoined. No statement is proved here. -/
import Derived.Test.YtlllboleinnfiaaQpLaw0
namespace Go.Proofs.Ytlllboleinnfiaa
open Go.RowKit
set_option linter.unusedVariables false
set_option linter.unusedSimpArgs false

/-- no line feed, no carriage return -/
def noEnd (l : List UInt8) : Bool := l.all fun c => c != 10 && c != 13
theorem whiteN_append (t : List UInt8) (rest : List UInt8) : whiteN (t ++ 10 :: rest) = whiteN t := by
  induction t with
  | nil => exact whiteN_no rfl
  | cons c r ih =>
    rw [List.cons_append]
    by_cases hw : isW c = true
    · rw [whiteN_yes hw, whiteN_yes hw, ih]
    · rw [whiteN_no (by simpa using hw), whiteN_no (by simpa using hw)]
theorem eolN_line (t rest : List UInt8) (h : noEnd t = true) : eolN (t ++ 10 :: rest) = if t = [] then 1 else 0 := by
  match t, h with
  | [], _ => rfl
  | c :: r, h =>
    simp only [noEnd, List.all_cons, Bool.and_eq_true, bne_iff_ne] at h
    rw [List.cons_append, eolN, if_neg h.1.1, if_neg (by simp [h.1.2]), if_neg (by simp)]
theorem noEnd_drop (t : List UInt8) (k : Nat) (h : noEnd t = true) : noEnd (t.drop k) = true := by
  unfold noEnd at *
  rw [List.all_eq_true] at *
  exact fun x hx => h x (List.mem_of_mem_drop hx)
theorem hex2_line (t rest : List UInt8) (h : noEnd t = true) : hex2 (t ++ 10 :: rest) = if 2 ≤ t.length then hex2 t else none := by
  have h10 : ¬ hexN 10 < 16 := by decide
  match t, h with
  | [], _ =>
    rw [if_neg (by simp)]
    cases rest with
    | nil => rfl
    | cons a r => show hex2 (10 :: a :: r) = none; rw [hex2, if_neg (fun h => h10 h.1)]
  | [c], _ =>
    rw [if_neg (by simp)]
    show hex2 (c :: 10 :: rest) = none
    rw [hex2, if_neg (fun h => h10 h.2)]
  | a :: b :: r, _ => rw [if_pos (by simp)]; rfl
theorem eqF_line (t rest : List UInt8) (h : noEnd t = true) : eqF (t ++ 10 :: rest) = eqF (t ++ [10]) ∧ (eqF (t ++ [10])).2 ≤ t.length + 2 := by
  have hh := hex2_line t rest h
  have hh0 := hex2_line t [] h
  have hw := whiteN_append t rest
  have hw0 := whiteN_append t []
  have hwl := whiteN_le t
  have hd : ∀ r : List UInt8, (t ++ 10 :: r).drop (whiteN t) = t.drop (whiteN t) ++ 10 :: r := fun r => List.drop_append_of_le_length hwl
  have he := eolN_line (t.drop (whiteN t)) rest (noEnd_drop t _ h)
  have he0 := eolN_line (t.drop (whiteN t)) [] (noEnd_drop t _ h)
  constructor
  · unfold eqF
    rw [hh, hh0, hw, hw0, hd, hd, he, he0]
  · unfold eqF
    rw [hh0, hw0, hd, he0]
    by_cases h2 : 2 ≤ t.length
    · rw [if_pos h2]
      split
      · simp; omega
      · have hi : (if t.drop (whiteN t) = [] then 1 else 0) ≤ 1 := by split <;> omega
        split
        · show 1 + whiteN t + _ ≤ _; omega
        · simp
    · rw [if_neg h2]
      simp only
      have hi : (if t.drop (whiteN t) = [] then 1 else 0) ≤ 1 := by split <;> omega
      split
      · show 1 + whiteN t + _ ≤ _; omega
      · simp
theorem decStep_line (t rest : List UInt8) (h : noEnd t = true) : decStep (t ++ 10 :: rest) = decStep (t ++ [10]) ∧ (decStep (t ++ [10])).2 ≤ t.length + 1 := by
  match t, h with
  | [], _ =>
    constructor
    · rw [List.nil_append, List.nil_append, decStep_plain rest (by decide) rfl, decStep_plain [] (by decide) rfl]
    · rw [List.nil_append, decStep_plain [] (by decide) rfl]; simp
  | c :: r, h =>
    have hr : noEnd r = true := by have := noEnd_drop _ 1 h; simpa using this
    rw [List.cons_append, List.cons_append]
    by_cases h61 : c = 61
    · subst h61
      rw [decStep_eq, decStep_eq]
      exact eqF_line r rest hr
    · by_cases hw : isW c = true
      · have hwl := whiteN_le (c :: r)
        have e : ∀ x : List UInt8, whiteN (c :: (r ++ 10 :: x)) = whiteN (c :: r) := fun x => whiteN_append (c :: r) x
        have hd : ∀ x : List UInt8, (c :: (r ++ 10 :: x)).drop (whiteN (c :: r)) = (c :: r).drop (whiteN (c :: r)) ++ 10 :: x := fun x => List.drop_append_of_le_length (l₁ := c :: r) hwl
        have ht : ∀ x : List UInt8, (c :: (r ++ 10 :: x)).take (whiteN (c :: r)) = (c :: r).take (whiteN (c :: r)) := fun x => List.take_append_of_le_length (l₁ := c :: r) hwl
        have he := fun x => eolN_line ((c :: r).drop (whiteN (c :: r))) x (noEnd_drop _ _ h)
        have e0 := e []; have hd0 := hd []; have ht0 := ht []; have he0 := he []
        have e1 := e rest; have hd1 := hd rest; have ht1 := ht rest; have he1 := he rest
        constructor
        · rw [decStep_white _ hw, decStep_white _ hw, e1, e0, hd1, hd0, he1, he0, ht1, ht0]
          simp
        · rw [decStep_white _ hw, e0]
          split <;> (simp at hwl ⊢; omega)
      · have hw' : isW c = false := by simpa using hw
        rw [decStep_plain _ h61 hw', decStep_plain _ h61 hw']
        simp
theorem dec_line (t : List UInt8) (rest : List UInt8) (h : noEnd t = true) : dec (t ++ 10 :: rest) = dec (t ++ [10]) ++ dec rest := by
  suffices H : ∀ n, ∀ t : List UInt8, t.length ≤ n → noEnd t = true → dec (t ++ 10 :: rest) = dec (t ++ [10]) ++ dec rest from H _ t (Nat.le_refl _) h
  intro n
  induction n with
  | zero =>
    intro t ht h
    have : t = [] := List.eq_nil_of_length_eq_zero (by omega)
    subst this
    rw [List.nil_append, List.nil_append, dec_cons (l := 10 :: rest) (by simp), dec_cons (l := [10]) (by simp), decStep_plain rest (by decide) rfl, decStep_plain [] (by decide) rfl]
    show [10] ++ dec rest = [10] ++ dec [] ++ dec rest
    rw [dec_nil]; simp
  | succ n ih =>
    intro t ht h
    have hs := decStep_line t rest h
    have hp := decStep_pos (t ++ [10])
    rw [dec_cons (l := t ++ 10 :: rest) (by simp), dec_cons (l := t ++ [10]) (by simp), hs.1, List.append_assoc]
    congr 1
    by_cases hk : (decStep (t ++ [10])).2 ≤ t.length
    · rw [List.drop_append_of_le_length hk, List.drop_append_of_le_length hk]
      exact ih _ (by rw [List.length_drop]; omega) (noEnd_drop _ _ h)
    · have e : (decStep (t ++ [10])).2 = t.length + 1 := by omega
      rw [e]
      have d1 : (t ++ 10 :: rest).drop (t.length + 1) = rest := by rw [← List.drop_drop, List.drop_left]; rfl
      have d2 : (t ++ [10]).drop (t.length + 1) = [] := by rw [← List.drop_drop, List.drop_left]; rfl
      rw [d1, d2, dec_nil]; rfl

/-- the lines so far: whatever comes behind is decoded behind them -/
def Lines (S W : List UInt8) : Prop := ∀ rest, dec (S ++ rest) = W ++ dec rest
theorem Lines.more {S W t : List UInt8} (h : Lines S W) (ht : noEnd t = true) : Lines (S ++ (t ++ [10])) (W ++ dec (t ++ [10])) := by
  intro rest
  have e : S ++ (t ++ [10]) ++ rest = S ++ (t ++ 10 :: rest) := by simp
  rw [e, h, dec_line t rest ht, List.append_assoc]
theorem Lines.all {S W : List UInt8} (h : Lines S W) : dec S = W := by
  have := h []
  rwa [List.append_nil, dec_nil, List.append_nil] at this

set_option maxRecDepth 100000 in
set_option maxHeartbeats 4000000 in
theorem law_QpJoined (A : Option Addr) (n c : Nat) (ss : List ByteArray) (w : World) (hn : n ≤ maxLen)
    (hrd : 0 < n → ∃ b off, A = some ⟨b, off, none⟩ ∧ b < w.heap.size ∧ ∀ j, j < n → w.cell? ⟨b, off + j, none⟩ = some (.string (ss.getD j ByteArray.empty)) ∧ (ss.getD j ByteArray.empty).size ≤ maxLen) :
    Calls Try.prog 8 #[.slice A n c] w fun e w' => e = .returned (.bool true) ∧ Below w.heap.size w w' := by
  unfold maxLen at hn
  by_cases h30 : n ≤ 30
  · have HR := hide hrd
    clear hrd
    go_enter Try.func8, Try.ntmps8
    go_wp2_with fail
    go_loopw [3, 4, 5] (fun sv wv i wr => ∃ (k : Nat) (S W : List UInt8), k ≤ n ∧ i = .int .i64 k ∧ sv = .string (str S) ∧ wv = .string (str W) ∧ S.length ≤ 101 * k ∧ W.length ≤ 101 * k ∧ Lines S W ∧ Below w.heap.size w wr) (fun _ _ i _ => n - (intOf i).toNat)
    case atStart => exact ⟨0, [], [], Nat.zero_le _, rfl, rfl, rfl, Nat.le_refl _, Nat.le_refl _, fun r => rfl, Below.refl _ _⟩
    case round =>
      obtain ⟨k, S, W, hk, rfl, rfl, rfl, hS, hW, hL, hb⟩ := hrel
      have HL := hide hL
      clear hL
      obtain ⟨wo, rfl⟩ : ∃ wo : World, wo = wr := ⟨_, rfl⟩
      have hzS : (str S).size = S.length := str_size S
      have hzW : (str W).size = W.length := str_size W
      by_cases hlt : k < n
      · obtain ⟨b, off, rfl, hbw, hc⟩ := HR.out (by omega)
        obtain ⟨t, ht⟩ : ∃ t, t = ss.getD k ByteArray.empty := ⟨_, rfl⟩
        obtain ⟨hc, hts⟩ := hc k hlt
        rw [← ht] at hc hts
        have hcell : wo.cell? ⟨b, off + k, none⟩ = some (.string t) := (hb.cell (by exact hbw)).trans hc
        clear hc ht
        unfold maxLen at hts
        by_cases h100 : t.size ≤ 100
        · go_wp2_with fail
          go_loop [7] (fun i => ∃ j : Nat, j ≤ t.size ∧ i = .int .i64 j ∧ noEnd (t.data.toList.take j) = true) (fun i => t.size - (intOf i).toNat)
          case atStart => exact ⟨0, Nat.zero_le _, rfl, rfl⟩
          case round =>
            obtain ⟨j, hj, rfl, hne⟩ := hrel
            have HE := hide hne
            clear hne
            by_cases hjt : j < t.size
            · by_cases hcc : t[j] = 10
              · have t1 : ((t[j].toNat : Int) == 10) = true := tT 10 hcc (by omega)
                clear hcc
                go_wp2_with fail
                refine (live2_any _).mono ?_
                rintro e w1 ⟨rfl, hb1⟩
                go_wp2_with fail
                go_ret
                exact ⟨rfl, hb.trans (hb1.mono hb.size)⟩
              · have t1 : ((t[j].toNat : Int) == 10) = false := tF 10 hcc (by omega)
                by_cases hcr : t[j] = 13
                · have t2 : ((t[j].toNat : Int) == 13) = true := tT 13 hcr (by omega)
                  clear hcc hcr
                  go_wp2_with fail
                  refine (live2_any _).mono ?_
                  rintro e w1 ⟨rfl, hb1⟩
                  go_wp2_with fail
                  go_ret
                  exact ⟨rfl, hb.trans (hb1.mono hb.size)⟩
                · have t2 : ((t[j].toNat : Int) == 13) = false := tF 13 hcr (by omega)
                  have HC := hide hcc
                  have HC2 := hide hcr
                  clear hcc hcr
                  go_wp2_with fail
                  go_round
                  case rel => exact ⟨j + 1, by omega, by go_num, by rw [take_snoc t j hjt, noEnd, List.all_append]; simp only [noEnd] at HE; rw [HE.out]; simp [HC.out, HC2.out]⟩
                  case measure => simp [intOf]; omega
            · have hne : noEnd t.data.toList = true := by
                have := HE.out
                rwa [List.take_of_length_le (by rw [toList_length]; omega)] at this
              have hm := Lines.more HL.out hne
              obtain ⟨U, hU⟩ : ∃ U, U = dec (t.data.toList ++ [10]) := ⟨_, rfl⟩
              have hUl := dec_length (t.data.toList ++ [10])
              rw [← hU, List.length_append, toList_length] at hUl
              rw [← hU] at hm
              have hUl2 : U.length ≤ t.size + 1 := hUl
              have HU : Hid (str (dec (t ++ ⟨#[10]⟩ : ByteArray).data.toList) = str U) := by
                rw [hU, ByteArray.data_append, Array.toList_append]; exact hide rfl
              have HM := hide hm
              have hzU : (str U).size = U.length := str_size U
              have hz10 : (⟨#[10]⟩ : ByteArray).size = 1 := rfl
              have hzt : (t ++ ⟨#[10]⟩ : ByteArray).size ≤ 70368744177664 := by rw [ByteArray.size_append, hz10]; omega
              clear hm hne hU hUl
              have hjj : j = t.size := by omega
              have HJ := hide hjj
              clear hjj
              go_wp2_with fail
              refine (decode_any _ _ hzt).mono ?_
              rintro e w1 ⟨rfl, hb1⟩
              rw [HU.out]
              rcases List.eq_nil_or_concat U with rfl | ⟨U', z, rfl⟩
              · have hq : (str []).toList = [] := str_list []
                go_wp2_with fail
                refine (live2_any _).mono ?_
                rintro e w2 ⟨rfl, hb2⟩
                go_wp2_with fail
                go_ret
                exact ⟨rfl, hb.trans ((hb1.trans (hb2.mono hb1.size)).mono hb.size)⟩
              · rw [List.concat_eq_append] at *
                have hl1 : (U' ++ [z]).length = U'.length + 1 := by simp
                rw [hl1] at hzU hUl2
                have hq : (str (U' ++ [z])).toList.isEmpty = false := by rw [str_list]; simp
                have hq2 : ((str (U' ++ [z])).toList == []) = false := by rw [str_list]; simp
                have hidx : ∀ h, (str (U' ++ [z]))[U'.length]'h = z := fun h => by
                  show (U' ++ [z])[U'.length]'(by simp) = z
                  simp
                by_cases hz : z = 10
                · have t1 : ((z.toNat : Int) == 10) = true := tT 10 hz (by omega)
                  have t2 : ((z.toNat : Int) != 10) = false := by rw [bne, t1]; rfl
                  clear hz t1
                  go_wp2_with fail
                  go_roundw
                  case rel => exact ⟨k + 1, S ++ (t.data.toList ++ [10]), W ++ (U' ++ [z]), by omega, by go_num, by rw [str_append, str_append, str_of]; apply congrArg Value.string; apply ext_list; simp; rfl, by simp only [str_append], by rw [List.length_append, List.length_append, toList_length]; simp; omega, by rw [List.length_append, hl1]; omega, HM.out, hb.trans (hb1.mono hb.size)⟩
                  case measure => simp [intOf]; omega
                · have t1 : ((z.toNat : Int) == 10) = false := tF 10 hz (by omega)
                  have t2 : ((z.toNat : Int) != 10) = true := by rw [bne, t1]; rfl
                  clear hz t1
                  go_wp2_with fail
                  refine (live2_any _).mono ?_
                  rintro e w2 ⟨rfl, hb2⟩
                  go_wp2_with fail
                  go_ret
                  exact ⟨rfl, hb.trans ((hb1.trans (hb2.mono hb1.size)).mono hb.size)⟩
        · go_wp2_with fail
          refine (live2_any _).mono ?_
          rintro e w1 ⟨rfl, hb1⟩
          go_wp2_with fail
          go_ret
          exact ⟨rfl, hb.trans (hb1.mono hb.size)⟩
      · have HA := hide HL.out.all
        go_wp2_with fail
        refine (decode_any _ _ (by omega)).mono ?_
        rintro e w1 ⟨rfl, hb1⟩
        rw [str_toList, HA.out]
        go_wp2_with fail
        refine (live2_any _).mono ?_
        rintro e w2 ⟨rfl, hb2⟩
        go_wp2_with fail
        go_ret
        exact ⟨rfl, hb.trans ((hb1.trans (hb2.mono hb1.size)).mono hb.size)⟩
  · clear hrd
    go_enter Try.func8, Try.ntmps8
    go_wp2_with fail
    refine (live2_any _).mono ?_
    rintro e w1 ⟨rfl, hb1⟩
    go_wp2_with fail
    go_ret
    exact ⟨rfl, hb1⟩
end Go.Proofs.Ytlllboleinnfiaa
