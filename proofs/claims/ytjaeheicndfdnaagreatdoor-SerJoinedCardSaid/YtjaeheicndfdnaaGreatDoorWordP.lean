/- What package word computes, as functions on lists of bytes, and facts on them. No statement is proved here. -/
import Derived.Test.YtjaeheicndfdnaaGreatDoorBaseM
import Derived.Test.YtjaeheicndfdnaaGreatDoorBaseN
namespace Go.Proofs.YtjaeheicndfdnaaGreatDoor
set_option linter.unusedVariables false
set_option linter.unusedSimpArgs false

def wsB (c : UInt8) : Bool := c == 32 || c == 9 || c == 10 || c == 13
def noWs (l : List UInt8) : Bool := l.all fun c => !wsB c
def allWs (l : List UInt8) : Bool := l.all wsB

/-! ### the letter Q -/
def qStep (c : UInt8) (r : List UInt8) : UInt8 × Nat := if c = 95 then (32, 1) else if c = 61 then (hex2 r).elim (c, 1) (fun b => (b, 3)) else (c, 1)
def qdec (l : List UInt8) : List UInt8 :=
  match l with
  | [] => []
  | c :: r => (qStep c r).1 :: qdec (r.drop ((qStep c r).2 - 1))
termination_by l.length
decreasing_by simp [List.length_drop]; omega
theorem qdec_nil : qdec [] = [] := by rw [qdec]
theorem qdec_cons (c : UInt8) (r : List UInt8) : qdec (c :: r) = (qStep c r).1 :: qdec (r.drop ((qStep c r).2 - 1)) := by rw [qdec]
theorem qStep_cases (c : UInt8) (r : List UInt8) : (c = 95 ∧ qStep c r = (32, 1)) ∨ (c = 61 ∧ ∃ b, hex2 r = some b ∧ qStep c r = (b, 3) ∧ 2 ≤ r.length) ∨ (c = 61 ∧ hex2 r = none ∧ qStep c r = (c, 1)) ∨ (c ≠ 95 ∧ c ≠ 61 ∧ qStep c r = (c, 1)) := by
  unfold qStep
  by_cases h : c = 95
  · exact .inl ⟨h, by rw [if_pos h]⟩
  · rw [if_neg h]
    by_cases h2 : c = 61
    · rw [if_pos h2]
      cases hx : hex2 r with
      | none => exact .inr (.inr (.inl ⟨h2, rfl, rfl⟩))
      | some b => exact .inr (.inl ⟨h2, b, rfl, rfl, hex2_len hx⟩)
    · exact .inr (.inr (.inr ⟨h, h2, by rw [if_neg h2]⟩))
theorem qStep_le (c : UInt8) (r : List UInt8) : 1 ≤ (qStep c r).2 ∧ (qStep c r).2 ≤ 3 ∧ (qStep c r).2 ≤ r.length + 1 := by
  rcases qStep_cases c r with ⟨_, h⟩ | ⟨_, b, _, h, _⟩ | ⟨_, _, h⟩ | ⟨_, _, h⟩
  all_goals rw [h]; simp
  omega
theorem qdec_length (l : List UInt8) : (qdec l).length ≤ l.length := by
  refine list_ind (p := fun l => (qdec l).length ≤ l.length) ?_ l
  intro l ih
  match l with
  | [] => rw [qdec_nil]; simp
  | c :: r =>
    rw [qdec_cons]
    have := ih (r.drop ((qStep c r).2 - 1)) (by rw [List.length_drop, List.length_cons]; omega)
    rw [List.length_drop] at this
    simp only [List.length_cons]; omega
theorem qdec_round {T acc : List UInt8} {c : UInt8} {r L : List UInt8} (h : acc ++ qdec L = T) (hc : L = c :: r) : (acc ++ [(qStep c r).1]) ++ qdec (L.drop (qStep c r).2) = T := by
  subst hc
  rw [← h, qdec_cons, List.append_assoc]
  have hle := qStep_le c r
  obtain ⟨n, hn⟩ : ∃ n, (qStep c r).2 = n + 1 := ⟨(qStep c r).2 - 1, by omega⟩
  rw [hn, List.drop_succ_cons, Nat.add_sub_cancel]; rfl

/-! ### an encoded word -/
/-- the kind of the alphabet that is named; 0: that may not be, or is not known -/
def labelK (a : List UInt8) : Nat := if a.length ≤ 40 ∧ noWs a = true then kindL (beforeC 42 a) else 0
/-- the bytes that a text stands for by its letter -/
def bytesO (x t : List UInt8) : Option (List UInt8) :=
  if noWs t = true then (if x = [66] ∨ x = [98] then some (decB t) else if x = [81] ∨ x = [113] then some (qdec t) else none) else none
/-- the encoded word that a text begins with -/
def oneL (l : List UInt8) : Option (List UInt8 × Nat) :=
  if l.take 2 = [61, 63] ∧ (afterC 63 (afterC 63 (afterC 63 (l.drop 2)))).take 1 = [61] ∧ labelK (beforeC 63 (l.drop 2)) ≠ 0 then
    (bytesO (beforeC 63 (afterC 63 (l.drop 2))) (beforeC 63 (afterC 63 (afterC 63 (l.drop 2))))).map fun b => (decodeL (labelK (beforeC 63 (l.drop 2))) b, l.length - ((afterC 63 (afterC 63 (afterC 63 (l.drop 2)))).length - 1))
  else none
def oneT (l : List UInt8) : List UInt8 := (oneL l).elim [] (·.1)
def oneN (l : List UInt8) : Nat := (oneL l).elim 0 (·.2)

theorem cut_here (c : UInt8) (a r : List UInt8) (h : c ∉ a) : beforeC c (a ++ c :: r) = a ∧ afterC c (a ++ c :: r) = r := by
  have hl : a.length < (a ++ c :: r).length := by simp
  have := cut_at c (a ++ c :: r) a.length hl (by rw [List.getElem_append_right (Nat.le_refl _)]; simp) (fun j hj => by
    rw [List.getElem_append_left hj]; intro e; exact h (e ▸ List.getElem_mem hj))
  exact ⟨by rw [this.2.1, List.take_left], by rw [this.2.2]; simp [List.drop_append]⟩
/-- the word of three parts, and what is behind it -/
def wordF (a x t r : List UInt8) : List UInt8 := [61, 63] ++ (a ++ 63 :: (x ++ 63 :: (t ++ 63 :: 61 :: r)))
theorem one_form (a x t r : List UInt8) (ha : (63 : UInt8) ∉ a) (hx : (63 : UInt8) ∉ x) (ht : (63 : UInt8) ∉ t) :
    oneL (wordF a x t r) = if labelK a = 0 then none else (bytesO x t).map fun b => (decodeL (labelK a) b, a.length + x.length + t.length + 6) := by
  have e0 : (wordF a x t r).drop 2 = a ++ 63 :: (x ++ 63 :: (t ++ 63 :: 61 :: r)) := rfl
  have e1 : (wordF a x t r).take 2 = [61, 63] := rfl
  obtain ⟨a1, a2⟩ := cut_here 63 a (x ++ 63 :: (t ++ 63 :: 61 :: r)) ha
  obtain ⟨x1, x2⟩ := cut_here 63 x (t ++ 63 :: 61 :: r) hx
  obtain ⟨t1, t2⟩ := cut_here 63 t (61 :: r) ht
  have hlen : (wordF a x t r).length - ((61 :: r).length - 1) = a.length + x.length + t.length + 6 := by
    simp [wordF]; omega
  unfold oneL
  rw [e0, e1, a1, a2, x1, x2, t1, t2, hlen]
  by_cases hk : labelK a = 0
  · rw [if_pos hk, if_neg (fun h => h.2.2 hk)]
  · rw [if_neg hk, if_pos ⟨rfl, rfl, hk⟩]
theorem labelK_nil : labelK [] = 0 := by decide +kernel
theorem noWs_app (a b : List UInt8) : noWs (a ++ b) = (noWs a && noWs b) := by simp [noWs]
theorem one_some {l : List UInt8} {g : List UInt8} {n : Nat} (h : oneL l = some (g, n)) :
    ∃ a x t r, l = wordF a x t r ∧ (63 : UInt8) ∉ a ∧ (63 : UInt8) ∉ x ∧ (63 : UInt8) ∉ t ∧ labelK a ≠ 0 ∧ n = a.length + x.length + t.length + 6 ∧ ∃ b, bytesO x t = some b ∧ g = decodeL (labelK a) b := by
  unfold oneL at h
  split at h
  · rename_i hc
    obtain ⟨h1, h2, h3⟩ := hc
    have hl : l = [61, 63] ++ l.drop 2 := by conv => lhs; rw [← List.take_append_drop 2 l, h1]
    rcases cut_case 63 (l.drop 2) with ⟨_, _, e⟩ | ⟨a, r1, e1, ha, b1, c1⟩
    · rw [e] at h2; exact absurd h2 (by decide)
    · rcases cut_case 63 r1 with ⟨_, _, e⟩ | ⟨x, r2, e2, hx, b2, c2⟩
      · rw [c1, e] at h2; exact absurd h2 (by decide)
      · rcases cut_case 63 r2 with ⟨_, _, e⟩ | ⟨t, r3, e3, ht, b3, c3⟩
        · rw [c1, c2, e] at h2; exact absurd h2 (by decide)
        · rw [c1, c2, c3] at h2
          match r3, h2 with
          | z :: r, h2 =>
            have hz : z = 61 := by simpa using h2
            subst hz
            have hw : l = wordF a x t r := by rw [hl, e1, e2, e3]; rfl
            refine ⟨a, x, t, r, hw, ha, hx, ht, by rw [← b1]; exact h3, ?_⟩
            rw [b1, c1, c2, c3, b2, b3] at h
            cases hb : bytesO x t with
            | none => rw [hb] at h; cases h
            | some b =>
              rw [hb] at h
              simp only [Option.map_some, Option.some.injEq, Prod.mk.injEq] at h
              refine ⟨?_, b, rfl, h.1.symm⟩
              rw [← h.2, hw]; simp [wordF]; omega
  · cases h
theorem one_pos {l : List UInt8} (h : oneN l ≠ 0) : oneL l = some (oneT l, oneN l) ∧ oneN l ≤ l.length ∧ 6 ≤ oneN l := by
  unfold oneN oneT at *
  cases ho : oneL l with
  | none => rw [ho] at h; exact absurd rfl h
  | some p =>
    obtain ⟨g, n⟩ := p
    obtain ⟨a, x, t, r, hw, _, _, _, _, hn, _⟩ := one_some ho
    refine ⟨rfl, ?_, ?_⟩
    · show n ≤ l.length
      rw [hn, hw]; simp [wordF]; omega
    · show 6 ≤ n
      omega
theorem one_zero {l : List UInt8} (h : oneN l = 0) : oneL l = none ∧ oneT l = [] := by
  unfold oneN oneT at *
  cases ho : oneL l with
  | none => exact ⟨rfl, rfl⟩
  | some p =>
    obtain ⟨g, n⟩ := p
    obtain ⟨a, x, t, r, _, _, _, _, _, hn, _⟩ := one_some ho
    rw [ho] at h
    have : n = 0 := h
    omega
theorem one_begin {l : List UInt8} (h : oneN l ≠ 0) : l.take 2 = [61, 63] := by
  obtain ⟨ho, _⟩ := one_pos h
  obtain ⟨a, x, t, r, hw, _⟩ := one_some ho
  rw [hw]; rfl
theorem one_none {l : List UInt8} (h : l.take 2 ≠ [61, 63]) : oneN l = 0 := by
  by_cases hn : oneN l = 0
  · exact hn
  · exact absurd (one_begin hn) h
/-- a word is told by its own bytes -/
theorem one_local {l t : List UInt8} (h : oneN l ≠ 0) (ht : oneN l = l.length) : oneN (l ++ t) = oneN l ∧ oneT (l ++ t) = oneT l := by
  obtain ⟨ho, _⟩ := one_pos h
  obtain ⟨a, x, y, r, hw, h1, h2, h3, h4, hn, b, hb, hg⟩ := one_some ho
  have hr : r = [] := by
    apply List.eq_nil_of_length_eq_zero
    have := congrArg List.length hw
    simp [wordF] at this
    omega
  subst hr
  have e : l ++ t = wordF a x y t := by rw [hw]; simp [wordF]
  have h5 := one_form a x y t h1 h2 h3
  rw [if_neg h4, hb] at h5
  constructor
  · show (oneL (l ++ t)).elim 0 (·.2) = _
    rw [e, h5, hn]; rfl
  · show (oneL (l ++ t)).elim [] (·.1) = _
    rw [e, h5, hg]; rfl
theorem beforeC_le (c : UInt8) (l : List UInt8) : (beforeC c l).length ≤ l.length := (List.takeWhile_sublist _).length_le
theorem bytesO_length {x t b : List UInt8} (h : bytesO x t = some b) : b.length ≤ t.length := by
  unfold bytesO at h
  split at h
  · split at h
    · rw [← Option.some.inj h]; have := decB_len t; omega
    · split at h
      · rw [← Option.some.inj h]; exact qdec_length t
      · cases h
  · cases h
theorem oneT_length (l : List UInt8) : (oneT l).length ≤ 3 * oneN l := by
  by_cases h : oneN l = 0
  · rw [(one_zero h).2, h]; simp
  · obtain ⟨ho, _⟩ := one_pos h
    obtain ⟨a, x, t, r, hw, _, _, _, _, hn, b, hb, hg⟩ := one_some ho
    have h1 := decodeL_length (labelK a) b
    have h2 := bytesO_length hb
    rw [hg, hn]; omega
theorem oneT_whole (l : List UInt8) : allWhole (oneT l) = true := by
  by_cases h : oneN l = 0
  · rw [(one_zero h).2]; exact allWhole_nil
  · obtain ⟨ho, _⟩ := one_pos h
    obtain ⟨a, x, t, r, hw, _, _, _, _, hn, b, hb, hg⟩ := one_some ho
    rw [hg]; exact decodeL_whole _ _

/-! ### a text, read -/
def decW (behind : Bool) (piece l : List UInt8) : List UInt8 :=
  if h : l = [] then validL piece
  else if oneN l = 0 then decW behind (piece ++ l.take 1) (l.drop 1)
  else (if behind && allWs piece then [] else validL piece) ++ (oneT l ++ decW true [] (l.drop (oneN l)))
termination_by l.length
decreasing_by
  · have := List.length_pos_iff.2 h; rw [List.length_drop]; omega
  · have := List.length_pos_iff.2 h; rw [List.length_drop]; omega
theorem decW_nil (b : Bool) (p : List UInt8) : decW b p [] = validL p := by rw [decW]; simp
theorem decW_go {b : Bool} {p l : List UInt8} (h : l ≠ []) (h0 : oneN l = 0) : decW b p l = decW b (p ++ l.take 1) (l.drop 1) := by
  rw [decW, dif_neg h, if_pos h0]
theorem decW_word {b : Bool} {p l : List UInt8} (h0 : oneN l ≠ 0) : decW b p l = (if b && allWs p then [] else validL p) ++ (oneT l ++ decW true [] (l.drop (oneN l))) := by
  have hl : l ≠ [] := by
    rintro rfl
    have := (one_pos h0).2
    simp at this; omega
  rw [decW, dif_neg hl, if_neg h0]
theorem whole_append {a : List UInt8} (b : List UInt8) (h : allWhole a = true) : allWhole (a ++ b) = allWhole b := by
  revert h
  refine list_ind (p := fun a => allWhole a = true → allWhole (a ++ b) = allWhole b) ?_ a
  intro a ih h
  by_cases ha : a = []
  · subst ha; rfl
  · by_cases hz : wholeN a = 0
    · rw [allWhole_zero hz ha] at h; cases h
    · rw [allWhole_pos hz] at h
      have hw := wholeN_le a
      have e : a ++ b = a.take (wholeN a) ++ (a.drop (wholeN a) ++ b) := by rw [← List.append_assoc, List.take_append_drop]
      have h1 := whole_local a (a.drop (wholeN a) ++ b) (by omega)
      rw [← ih (a.drop (wholeN a)) (by rw [List.length_drop]; omega) h, e]
      exact allWhole_app (by rw [h1, List.length_take]; omega) (by intro e; have := congrArg List.length e; rw [List.length_take, List.length_nil] at this; omega)
theorem decW_whole (b : Bool) (p l : List UInt8) : allWhole (decW b p l) = true := by
  revert b p
  refine list_ind (p := fun l => ∀ b p, allWhole (decW b p l) = true) ?_ l
  intro l ih b p
  by_cases hl : l = []
  · subst hl; rw [decW_nil]; exact allWhole_valid p
  · have hl' := List.length_pos_iff.2 hl
    by_cases h0 : oneN l = 0
    · rw [decW_go hl h0]; exact ih _ (by rw [List.length_drop]; omega) _ _
    · rw [decW_word h0]
      have h1 := ih (l.drop (oneN l)) (by rw [List.length_drop]; omega) true []
      have h2 : allWhole (oneT l ++ decW true [] (l.drop (oneN l))) = true := by rw [whole_append _ (oneT_whole l)]; exact h1
      split
      · exact h2
      · rw [whole_append _ (allWhole_valid p)]; exact h2
theorem decW_length (b : Bool) (p l : List UInt8) : (decW b p l).length ≤ 3 * (p.length + l.length) := by
  revert b p
  refine list_ind (p := fun l => ∀ b p, (decW b p l).length ≤ 3 * (p.length + l.length)) ?_ l
  intro l ih b p
  by_cases hl : l = []
  · subst hl; rw [decW_nil]; have := validL_length p; simp; omega
  · have hl' := List.length_pos_iff.2 hl
    by_cases h0 : oneN l = 0
    · rw [decW_go hl h0]
      have := ih (l.drop 1) (by rw [List.length_drop]; omega) b (p ++ l.take 1)
      rw [List.length_drop, List.length_append, List.length_take] at this
      omega
    · rw [decW_word h0]
      have h1 := ih (l.drop (oneN l)) (by rw [List.length_drop]; omega) true []
      have h2 := oneT_length l
      have h3 := (one_pos h0).2.1
      have h4 := validL_length p
      rw [List.length_drop] at h1
      simp only [List.length_nil] at h1
      split
      · simp only [List.length_append, List.length_nil]; omega
      · simp only [List.length_append]; omega
/-- what has no sign of a word is one piece -/
theorem decW_plain (b : Bool) (p l : List UInt8) (h : ∀ i, ((l.drop i).take 2) ≠ [61, 63]) : decW b p l = validL (p ++ l) := by
  revert b p h
  refine list_ind (p := fun l => ∀ b p, (∀ i, ((l.drop i).take 2) ≠ [61, 63]) → decW b p l = validL (p ++ l)) ?_ l
  intro l ih b p h
  by_cases hl : l = []
  · subst hl; rw [decW_nil, List.append_nil]
  · have hl' := List.length_pos_iff.2 hl
    rw [decW_go hl (one_none (by have := h 0; rwa [List.drop_zero] at this)), ih (l.drop 1) (by rw [List.length_drop]; omega) b _ (fun i => by rw [List.drop_drop]; exact h _)]
    rw [List.append_assoc, List.take_append_drop]
end Go.Proofs.YtjaeheicndfdnaaGreatDoor
