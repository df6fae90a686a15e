/- What package word writes, as functions on lists of bytes: groups of whole signs, their words, and that these are read back. No statement is proved here. -/
import Derived.Test.YtjaeheicndfdnaaGreatDoorWordP
namespace Go.Proofs.YtjaeheicndfdnaaGreatDoor
set_option linter.unusedVariables false
set_option linter.unusedSimpArgs false

theorem whole_first {l : List UInt8} (h : wholeN l ≠ 0) : contB (l.getD 0 0) = false ∧ ∀ p, 0 < p → p < wholeN l → contB (l.getD p 0) = true := by
  have nc : ∀ a : UInt8, (a.toNat < 128 ∨ 192 ≤ a.toNat) → contB a = false := fun a ha => by
    cases hc : contB a with
    | false => rfl
    | true => have := (contB_iff a).1 hc; omega
  rcases whole_cases l with e | ⟨a, r, rfl, h1, e⟩ | ⟨a, b, r, rfl, h1, h2, h3, h4, e⟩ | ⟨a, b, c, r, rfl, h1, h2, h3, h4, h5, h6, e⟩ | ⟨a, b, c, d, r, rfl, h1, h2, h3, h4, h5, h6, h7, e⟩
  · exact absurd e h
  · rw [e]; exact ⟨nc a (.inl h1), fun p h0 h1 => by omega⟩
  · rw [e]; exact ⟨nc a (.inr h1), fun p h0 h1 => by
      obtain rfl : p = 1 := by omega
      exact h3⟩
  · rw [e]; exact ⟨nc a (.inr (by omega)), fun p h0 h1 => by
      obtain rfl | rfl : p = 1 ∨ p = 2 := by omega
      · exact h3
      · exact h4⟩
  · rw [e]; exact ⟨nc a (.inr (by omega)), fun p h0 h1 => by
      obtain rfl | rfl | rfl : p = 1 ∨ p = 2 ∨ p = 3 := by omega
      · exact h3
      · exact h4
      · exact h5⟩
theorem allWhole_ne {l : List UInt8} (h : allWhole l = true) (hl : l ≠ []) : wholeN l ≠ 0 := fun e => by rw [allWhole_zero e hl] at h; cases h
theorem allWhole_step {l : List UInt8} (h : allWhole l = true) : allWhole (l.drop (wholeN l)) = true := by
  by_cases hz : wholeN l = 0
  · rw [hz, List.drop_zero]; exact h
  · rw [← allWhole_pos hz]; exact h

/-- how many bytes the whole signs ahead have that have at most so many -/
def groupN (room : Nat) (l : List UInt8) : Nat := if h : wholeN l = 0 ∨ room < wholeN l then 0 else wholeN l + groupN (room - wholeN l) (l.drop (wholeN l))
termination_by l.length
decreasing_by
  have := wholeN_le l
  rw [List.length_drop]; omega
theorem group_stop {room : Nat} {l : List UInt8} (h : wholeN l = 0 ∨ room < wholeN l) : groupN room l = 0 := by rw [groupN, dif_pos h]
theorem group_go {room : Nat} {l : List UInt8} (h : wholeN l ≠ 0) (h' : wholeN l ≤ room) : groupN room l = wholeN l + groupN (room - wholeN l) (l.drop (wholeN l)) := by
  rw [groupN, dif_neg (by omega)]
theorem group_le (room : Nat) (l : List UInt8) : groupN room l ≤ room ∧ groupN room l ≤ l.length := by
  revert room
  refine list_ind (p := fun l => ∀ room, groupN room l ≤ room ∧ groupN room l ≤ l.length) ?_ l
  intro l ih room
  by_cases h : wholeN l = 0 ∨ room < wholeN l
  · rw [group_stop h]; omega
  · have hw := wholeN_le l
    have := ih (l.drop (wholeN l)) (by rw [List.length_drop]; omega) (room - wholeN l)
    rw [List.length_drop] at this
    rw [group_go (by omega) (by omega)]; omega
theorem group_whole (room : Nat) (l : List UInt8) (h : allWhole l = true) : allWhole (l.drop (groupN room l)) = true ∧ allWhole (l.take (groupN room l)) = true := by
  revert room h
  refine list_ind (p := fun l => ∀ room, allWhole l = true → allWhole (l.drop (groupN room l)) = true ∧ allWhole (l.take (groupN room l)) = true) ?_ l
  intro l ih room h
  by_cases hc : wholeN l = 0 ∨ room < wholeN l
  · rw [group_stop hc]; exact ⟨h, allWhole_nil⟩
  · have hw := wholeN_le l
    have := ih (l.drop (wholeN l)) (by rw [List.length_drop]; omega) (room - wholeN l) (allWhole_step h)
    rw [group_go (by omega) (by omega), ← List.drop_drop, List.take_add]
    refine ⟨this.1, ?_⟩
    have h1 := whole_local l ((l.drop (wholeN l)).take (groupN (room - wholeN l) (l.drop (wholeN l)))) (by omega)
    rw [allWhole_app (by rw [h1, List.length_take]; omega) (by intro e; have := congrArg List.length e; rw [List.length_take, List.length_nil] at this; omega)]
    exact this.2
theorem group_pos {room : Nat} {l : List UInt8} (hr : 4 ≤ room) (h : allWhole l = true) (hl : l ≠ []) : 0 < groupN room l := by
  have hz := allWhole_ne h hl
  have hw := wholeN_le l
  rw [group_go hz (by omega)]; omega
theorem group_all' (l : List UInt8) : ∀ room, allWhole l = true → l.length ≤ room → groupN room l = l.length := by
  refine list_ind (p := fun l => ∀ room, allWhole l = true → l.length ≤ room → groupN room l = l.length) ?_ l
  intro l ih room h hr
  by_cases hl : l = []
  · subst hl; rw [group_stop (.inl rfl)]; rfl
  · have hz := allWhole_ne h hl
    have hw := wholeN_le l
    rw [group_go hz (by omega), ih _ (by rw [List.length_drop]; omega) _ (allWhole_step h) (by rw [List.length_drop]; omega), List.length_drop]; omega
theorem group_all {room : Nat} {l : List UInt8} (h : allWhole l = true) (hr : l.length ≤ room) : groupN room l = l.length := group_all' l room h hr
/-- where a group ends a sign begins, and up to its room no other one -/
theorem group_cont' (l : List UInt8) : ∀ room, allWhole l = true → room < l.length →
    contB (l.getD (groupN room l) 0) = false ∧ ∀ p, groupN room l < p → p ≤ room → contB (l.getD p 0) = true := by
  refine list_ind (p := fun l => ∀ room, allWhole l = true → room < l.length → contB (l.getD (groupN room l) 0) = false ∧ ∀ p, groupN room l < p → p ≤ room → contB (l.getD p 0) = true) ?_ l
  intro l ih room h hr
  have hl : l ≠ [] := by rintro rfl; simp at hr
  have hz := allWhole_ne h hl
  have hw := wholeN_le l
  have hf := whole_first hz
  by_cases hc : room < wholeN l
  · rw [group_stop (.inr hc)]
    exact ⟨hf.1, fun p h0 h1 => hf.2 p h0 (by omega)⟩
  · have hi := ih (l.drop (wholeN l)) (by rw [List.length_drop]; omega) (room - wholeN l) (allWhole_step h) (by rw [List.length_drop]; omega)
    have hg : ∀ q, (l.drop (wholeN l)).getD q 0 = l.getD (wholeN l + q) 0 := fun q => by
      simp only [List.getD_eq_getElem?_getD, List.getElem?_drop]
    rw [group_go hz (by omega)]
    refine ⟨by rw [← hg]; exact hi.1, fun p h0 h1 => ?_⟩
    have := hi.2 (p - wholeN l) (by omega) (by omega)
    rw [hg, Nat.add_sub_cancel' (by omega)] at this
    exact this

theorem group_cont {room : Nat} {l : List UInt8} (h : allWhole l = true) (hr : room < l.length) :
    contB (l.getD (groupN room l) 0) = false ∧ ∀ p, groupN room l < p → p ≤ room → contB (l.getD p 0) = true := group_cont' l room h hr

/-! ### words -/
def wordL (g : List UInt8) : List UInt8 := wordF [117, 116, 102, 45, 56] [66] (encB g) []
theorem wordL_eq (g : List UInt8) : wordL g = [61, 63, 117, 116, 102, 45, 56, 63, 66, 63] ++ encB g ++ [63, 61] := by simp [wordL, wordF]
theorem wordL_app (g r : List UInt8) : wordL g ++ r = wordF [117, 116, 102, 45, 56] [66] (encB g) r := by simp [wordL, wordF]
theorem wordL_length (g : List UInt8) : (wordL g).length = 12 + (encB g).length := by rw [wordL_eq]; simp; omega
theorem letter_sign (n : Nat) (h : n < 64) : 33 ≤ (letter n).toNat ∧ (letter n).toNat ≤ 126 ∧ letter n ≠ 63 := by
  have : ∀ n, n < 64 → 33 ≤ (letter n).toNat ∧ (letter n).toNat ≤ 126 ∧ letter n ≠ 63 := by decide +kernel
  exact this n h
theorem encFrom_signs (l : List UInt8) : ∀ h w, (h = 0 ∨ (h = 2 ∧ w < 4) ∨ (h = 4 ∧ w < 16)) → ∀ c ∈ encFrom h w l, 33 ≤ c.toNat ∧ c.toNat ≤ 126 ∧ c ≠ 63 := by
  have h61 : 33 ≤ (61 : UInt8).toNat ∧ (61 : UInt8).toNat ≤ 126 ∧ (61 : UInt8) ≠ 63 := by decide
  induction l with
  | nil =>
    intro h w hh c hc
    rcases hh with rfl | ⟨rfl, hw⟩ | ⟨rfl, hw⟩
    · simp [encFrom] at hc
    · simp [encFrom] at hc
      rcases hc with rfl | rfl
      · exact letter_sign _ (by omega)
      · exact h61
    · simp [encFrom] at hc
      rcases hc with rfl | rfl
      · exact letter_sign _ (by omega)
      · exact h61
  | cons a r ih =>
    intro h w hh c hc
    have ha := a.toNat_lt
    rcases hh with rfl | ⟨rfl, hw⟩ | ⟨rfl, hw⟩
    · rw [encFrom, if_pos rfl] at hc
      rcases List.mem_cons.1 hc with rfl | hc
      · exact letter_sign _ (by omega)
      · exact ih 2 _ (.inr (.inl ⟨rfl, by omega⟩)) c hc
    · rw [encFrom, if_neg (by omega), if_pos rfl] at hc
      rcases List.mem_cons.1 hc with rfl | hc
      · exact letter_sign _ (by omega)
      · exact ih 4 _ (.inr (.inr ⟨rfl, by omega⟩)) c hc
    · rw [encFrom, if_neg (by omega), if_neg (by omega)] at hc
      rcases List.mem_cons.1 hc with rfl | hc
      · exact letter_sign _ (by omega)
      · rcases List.mem_cons.1 hc with rfl | hc
        · exact letter_sign _ (by omega)
        · exact ih 0 0 (.inl rfl) c hc
theorem encB_signs (l : List UInt8) : ∀ c ∈ encB l, 33 ≤ c.toNat ∧ c.toNat ≤ 126 ∧ c ≠ 63 := encFrom_signs l 0 0 (.inl rfl)
theorem noWs_signs {l : List UInt8} (h : ∀ c ∈ l, 33 ≤ c.toNat) : noWs l = true := by
  rw [noWs, List.all_eq_true]
  intro c hc
  have := h c hc
  have : ∀ c : UInt8, 33 ≤ c.toNat → (!wsB c) = true := u8_all (p := fun c => 33 ≤ c.toNat → (!wsB c) = true) (by decide +kernel)
  exact this c (h c hc)
theorem labelK_utf8 : labelK [117, 116, 102, 45, 56] = 1 := by decide +kernel
/-- a word is read as its group -/
theorem word_one (g r : List UInt8) (h : allWhole g = true) : oneN (wordL g ++ r) = (wordL g).length ∧ oneT (wordL g ++ r) = g := by
  have hs := encB_signs g
  have h1 := one_form [117, 116, 102, 45, 56] [66] (encB g) r (by decide) (by decide) (fun hm => (hs 63 hm).2.2 rfl)
  have hb : bytesO [66] (encB g) = some g := by
    unfold bytesO
    rw [if_pos (noWs_signs fun c hc => (hs c hc).1), if_pos (.inl rfl), decB_encB]
  rw [if_neg (by rw [labelK_utf8]; decide), hb, labelK_utf8] at h1
  have hd : decodeL 1 g = g := by
    show validL g = g
    exact valid_whole g h
  constructor
  · show (oneL (wordL g ++ r)).elim 0 (·.2) = _
    rw [wordL_app, h1, wordL_length]
    show 5 + 1 + (encB g).length + 6 = _
    omega
  · show (oneL (wordL g ++ r)).elim [] (·.1) = _
    rw [wordL_app, h1]
    exact hd

/-! ### the document's way -/
def encW (some l : List UInt8) : List UInt8 :=
  if h : wholeN l = 0 then wordL some
  else if 30 < some.length + wholeN l then wordL some ++ 32 :: encW (l.take (wholeN l)) (l.drop (wholeN l))
  else encW (some ++ l.take (wholeN l)) (l.drop (wholeN l))
termination_by l.length
decreasing_by
  all_goals
    have := wholeN_le l
    rw [List.length_drop]; omega
theorem encW_end {p l : List UInt8} (h : wholeN l = 0) : encW p l = wordL p := by rw [encW, dif_pos h]
theorem encW_new {p l : List UInt8} (h : wholeN l ≠ 0) (h' : 30 < p.length + wholeN l) : encW p l = wordL p ++ 32 :: encW (l.take (wholeN l)) (l.drop (wholeN l)) := by
  rw [encW, dif_neg h, if_pos h']
theorem encW_go {p l : List UInt8} (h : wholeN l ≠ 0) (h' : ¬ 30 < p.length + wholeN l) : encW p l = encW (p ++ l.take (wholeN l)) (l.drop (wholeN l)) := by
  rw [encW, dif_neg h, if_neg h']
/-! ### the program's way -/
def groups (l : List UInt8) : List (List UInt8) := if h : groupN 30 l = 0 then [] else l.take (groupN 30 l) :: groups (l.drop (groupN 30 l))
termination_by l.length
decreasing_by
  have := group_le 30 l
  rw [List.length_drop]; omega
theorem groups_end {l : List UInt8} (h : groupN 30 l = 0) : groups l = [] := by rw [groups, dif_pos h]
theorem groups_go {l : List UInt8} (h : groupN 30 l ≠ 0) : groups l = l.take (groupN 30 l) :: groups (l.drop (groupN 30 l)) := by rw [groups, dif_neg h]
theorem groups_nil : groups [] = [] := groups_end (group_stop (.inl rfl))
def joinW : List (List UInt8) → List UInt8
  | [] => []
  | [g] => wordL g
  | g :: r => wordL g ++ 32 :: joinW r
theorem encW_groups (l : List UInt8) : ∀ p : List UInt8, p.length ≤ 30 → allWhole l = true →
    encW p l = if l.drop (groupN (30 - p.length) l) = [] then wordL (p ++ l) else wordL (p ++ l.take (groupN (30 - p.length) l)) ++ 32 :: encW [] (l.drop (groupN (30 - p.length) l)) := by
  refine list_ind (p := fun l => ∀ p : List UInt8, p.length ≤ 30 → allWhole l = true →
    encW p l = if l.drop (groupN (30 - p.length) l) = [] then wordL (p ++ l) else wordL (p ++ l.take (groupN (30 - p.length) l)) ++ 32 :: encW [] (l.drop (groupN (30 - p.length) l))) ?_ l
  intro l ih p hp h
  by_cases hl : l = []
  · subst hl
    rw [if_pos (List.drop_nil), List.append_nil]; exact encW_end rfl
  · have hz := allWhole_ne h hl
    have hw := wholeN_le l
    by_cases hc : 30 < p.length + wholeN l
    · rw [group_stop (.inr (by omega)), List.drop_zero, if_neg hl, List.take_zero, List.append_nil, encW_new hz hc]
      conv => rhs; rw [encW_go (p := []) hz (by simp; omega)]
      rfl
    · rw [encW_go hz hc, ih (l.drop (wholeN l)) (by rw [List.length_drop]; omega) _ (by rw [List.length_append, List.length_take]; omega) (allWhole_step h)]
      have e : 30 - (p ++ l.take (wholeN l)).length = 30 - p.length - wholeN l := by rw [List.length_append, List.length_take]; omega
      rw [e, group_go (room := 30 - p.length) hz (by omega), ← List.drop_drop, List.take_add]
      rw [List.append_assoc, List.append_assoc, List.take_append_drop]
theorem encW_join (l : List UInt8) : allWhole l = true → l ≠ [] → encW [] l = joinW (groups l) := by
  refine list_ind (p := fun l => allWhole l = true → l ≠ [] → encW [] l = joinW (groups l)) ?_ l
  intro l ih h hl
  have hg := group_pos (room := 30) (by omega) h hl
  have hle := group_le 30 l
  rw [encW_groups l [] (by simp) h, groups_go (by omega)]
  show (if l.drop (groupN 30 l) = [] then wordL l else wordL (l.take (groupN 30 l)) ++ 32 :: encW [] (l.drop (groupN 30 l))) = _
  by_cases hd : l.drop (groupN 30 l) = []
  · rw [if_pos hd, hd, groups_nil]
    have := List.take_append_drop (groupN 30 l) l
    rw [hd, List.append_nil] at this
    rw [this]; rfl
  · rw [if_neg hd, ih _ (by rw [List.length_drop]; omega) (group_whole 30 l h).1 hd]
    have hg2 := group_pos (room := 30) (by omega) (group_whole 30 l h).1 hd
    rw [groups_go (l := l.drop (groupN 30 l)) (by omega)]; rfl
/-- what is written is read -/
theorem dec_ws (b : Bool) (p l : List UInt8) (c : UInt8) (h : c ≠ 61) : decW b p (c :: l) = decW b (p ++ [c]) l :=
  decW_go (by simp) (one_none (by
    intro e
    have := congrArg (·.head?) e
    simp at this
    exact h this))
theorem back_groups (l : List UInt8) : allWhole l = true → l ≠ [] → decW false [] (joinW (groups l)) = l ∧ decW true [32] (joinW (groups l)) = l := by
  refine list_ind (p := fun l => allWhole l = true → l ≠ [] → decW false [] (joinW (groups l)) = l ∧ decW true [32] (joinW (groups l)) = l) ?_ l
  intro l ih h hl
  have hg := group_pos (room := 30) (by omega) h hl
  have hle := group_le 30 l
  have hw := group_whole 30 l h
  rw [groups_go (by omega)]
  by_cases hd : l.drop (groupN 30 l) = []
  · have e := List.take_append_drop (groupN 30 l) l
    rw [hd, List.append_nil] at e
    rw [hd, groups_nil, e]
    show decW false [] (wordL l) = l ∧ decW true [32] (wordL l) = l
    obtain ⟨h1, h2⟩ := word_one l [] h
    rw [List.append_nil] at h1 h2
    have h0 : oneN (wordL l) ≠ 0 := by rw [h1, wordL_length]; omega
    have hdr : (wordL l).drop (wordL l).length = [] := List.drop_length
    rw [decW_word h0, decW_word h0, h1, h2, hdr, decW_nil, validL_nil]
    constructor <;> simp [allWs, wsB, validL_nil]
  · have hg2 := group_pos (room := 30) (by omega) hw.1 hd
    obtain ⟨i1, i2⟩ := ih _ (by rw [List.length_drop]; omega) hw.1 hd
    have e : joinW (l.take (groupN 30 l) :: groups (l.drop (groupN 30 l))) = wordL (l.take (groupN 30 l)) ++ 32 :: joinW (groups (l.drop (groupN 30 l))) := by
      rw [groups_go (l := l.drop (groupN 30 l)) (by omega)]; rfl
    rw [e]
    obtain ⟨h1, h2⟩ := word_one (l.take (groupN 30 l)) (32 :: joinW (groups (l.drop (groupN 30 l)))) hw.2
    have h0 : oneN (wordL (l.take (groupN 30 l)) ++ 32 :: joinW (groups (l.drop (groupN 30 l)))) ≠ 0 := by rw [h1, wordL_length]; omega
    rw [decW_word h0, decW_word h0, h1, h2, List.drop_left, dec_ws _ _ _ _ (by decide)]
    show _ ++ (_ ++ decW true [32] _) = l ∧ _ ++ (_ ++ decW true [32] _) = l
    rw [i2, List.take_append_drop]
    constructor <;> simp [allWs, wsB, validL_nil]

/-! ### signs alone, and no word longer than 52 -/
theorem wordL_signs (g : List UInt8) : ∀ c ∈ wordL g, 33 ≤ c.toNat ∧ c.toNat ≤ 126 := by
  intro c hc
  rw [wordL_eq] at hc
  simp only [List.mem_append] at hc
  rcases hc with (hc | hc) | hc
  · have : ∀ c ∈ ([61, 63, 117, 116, 102, 45, 56, 63, 66, 63] : List UInt8), 33 ≤ c.toNat ∧ c.toNat ≤ 126 := by decide
    exact this c hc
  · exact ⟨(encB_signs g c hc).1, (encB_signs g c hc).2.1⟩
  · have : ∀ c ∈ ([63, 61] : List UInt8), 33 ≤ c.toNat ∧ c.toNat ≤ 126 := by decide
    exact this c hc
theorem joinW_signs (L : List (List UInt8)) : ∀ c ∈ joinW L, 32 ≤ c.toNat ∧ c.toNat ≤ 126 := by
  induction L with
  | nil => intro c hc; cases hc
  | cons g r ih =>
    intro c hc
    match r, ih, hc with
    | [], _, hc => have := wordL_signs g c hc; omega
    | q :: r, ih, hc =>
      rcases List.mem_append.1 (show c ∈ wordL g ++ 32 :: joinW (q :: r) from hc) with h | h
      · have := wordL_signs g c h; omega
      · rcases List.mem_cons.1 h with rfl | h
        · decide
        · exact ih c h
/-- no run without a blank has more than 52 bytes, where n are behind -/
def runOK (n : Nat) : List UInt8 → Bool
  | [] => true
  | c :: r => if c = 32 then runOK 0 r else decide (n + 1 ≤ 52) && runOK (n + 1) r
theorem run_signs (a : List UInt8) (h : ∀ c ∈ a, 33 ≤ c.toNat) : ∀ (n : Nat) (r : List UInt8), n + a.length ≤ 52 → (∀ m, m ≤ 52 → runOK m r = true) → runOK n (a ++ r) = true := by
  induction a with
  | nil => intro n r hn hr; exact hr n (by simpa using hn)
  | cons c a ih =>
    intro n r hn hr
    have hc : c ≠ 32 := by
      rintro rfl
      have := h 32 (List.mem_cons_self ..)
      exact absurd this (by decide)
    rw [List.length_cons] at hn
    rw [List.cons_append, runOK, if_neg hc, ih (fun x hx => h x (List.mem_cons_of_mem _ hx)) (n + 1) r (by omega) hr]
    simp; omega
theorem groups_le (l : List UInt8) : ∀ g ∈ groups l, g.length ≤ 30 := by
  refine list_ind (p := fun l => ∀ g ∈ groups l, g.length ≤ 30) ?_ l
  intro l ih g hg
  by_cases h : groupN 30 l = 0
  · rw [groups_end h] at hg; cases hg
  · rw [groups_go h] at hg
    have hle := group_le 30 l
    rcases List.mem_cons.1 hg with rfl | hg
    · rw [List.length_take]; omega
    · exact ih _ (by rw [List.length_drop]; omega) g hg
theorem run_join (L : List (List UInt8)) (h : ∀ g ∈ L, g.length ≤ 30) : runOK 0 (joinW L) = true := by
  induction L with
  | nil => rfl
  | cons g r ih =>
    have hg := h g (List.mem_cons_self ..)
    have hl : (wordL g).length ≤ 52 := by rw [wordL_length, encB_len]; omega
    have hr := ih (fun x hx => h x (List.mem_cons_of_mem _ hx))
    match r, hr with
    | [], _ =>
      have := run_signs (wordL g) (fun c hc => (wordL_signs g c hc).1) 0 [] (by omega) (fun m _ => rfl)
      rw [List.append_nil] at this; exact this
    | q :: r, hr =>
      exact run_signs (wordL g) (fun c hc => (wordL_signs g c hc).1) 0 (32 :: joinW (q :: r)) (by omega) (fun m _ => by rw [runOK, if_pos rfl]; exact hr)
theorem joinW_length (l : List UInt8) : (joinW (groups l)).length ≤ 53 * l.length := by
  refine list_ind (p := fun l => (joinW (groups l)).length ≤ 53 * l.length) ?_ l
  intro l ih
  by_cases h : groupN 30 l = 0
  · rw [groups_end h]; simp [joinW]
  · have hle := group_le 30 l
    have hi := ih (l.drop (groupN 30 l)) (by rw [List.length_drop]; omega)
    have hl : (wordL (l.take (groupN 30 l))).length ≤ 52 := by
      have : (l.take (groupN 30 l)).length ≤ 30 := by rw [List.length_take]; omega
      rw [wordL_length, encB_len]; omega
    rw [List.length_drop] at hi
    rw [groups_go h]
    cases hg : groups (l.drop (groupN 30 l)) with
    | nil => show (wordL _).length ≤ _; omega
    | cons q r =>
      rw [hg] at hi
      show (wordL (l.take (groupN 30 l)) ++ 32 :: joinW (q :: r)).length ≤ _
      rw [List.length_append, List.length_cons]; omega
end Go.Proofs.YtjaeheicndfdnaaGreatDoor
