/- Texts made valid, and the alphabets' texts, as functions on lists of bytes. No statement is proved here. -/
import Derived.Test.YtiojfknphpnlhaaDoorCharsP
namespace Go.Proofs.YtiojfknphpnlhaaDoor
set_option linter.unusedVariables false
set_option linter.unusedSimpArgs false

theorem vStep_pos' (l : List UInt8) (h : l ≠ []) : 1 ≤ (vStep l).2 ∧ (vStep l).2 ≤ l.length ∧ 1 ≤ (vStep l).1.length ∧ (vStep l).1.length ≤ 3 * (vStep l).2 := by
  have hw := wholeN_le l
  have hl := List.length_pos_iff.2 h
  by_cases hz : wholeN l = 0
  · rw [vStep_zero hz]; simp [bad]; omega
  · rw [vStep_pos rfl hz]; simp; omega
def validL (l : List UInt8) : List UInt8 := if h : l = [] then [] else (vStep l).1 ++ validL (l.drop (vStep l).2)
termination_by l.length
decreasing_by
  have h1 := vStep_pos' l h
  have h2 := List.length_pos_iff.2 h
  rw [List.length_drop]; omega
theorem validL_nil : validL [] = [] := by rw [validL]; simp
theorem validL_cons {l : List UInt8} (h : l ≠ []) : validL l = (vStep l).1 ++ validL (l.drop (vStep l).2) := by rw [validL, dif_neg h]
def allWhole (l : List UInt8) : Bool := if h : wholeN l = 0 then l.isEmpty else allWhole (l.drop (wholeN l))
termination_by l.length
decreasing_by
  have h1 := wholeN_le l
  rw [List.length_drop]; omega
theorem allWhole_nil : allWhole [] = true := by rw [allWhole, dif_pos (show wholeN [] = 0 from rfl)]; rfl
theorem allWhole_pos {l : List UInt8} (h : wholeN l ≠ 0) : allWhole l = allWhole (l.drop (wholeN l)) := by rw [allWhole, dif_neg h]
theorem allWhole_zero {l : List UInt8} (h : wholeN l = 0) (hl : l ≠ []) : allWhole l = false := by
  rw [allWhole, dif_pos h]; cases l with
  | nil => exact absurd rfl hl
  | cons => rfl
theorem allWhole_app {p t : List UInt8} (h : wholeN (p ++ t) = p.length) (hp : p ≠ []) : allWhole (p ++ t) = allWhole t := by
  have := List.length_pos_iff.2 hp
  rw [allWhole_pos (by omega), h, List.drop_left]
theorem allWhole_rune (r : Int) (t : List UInt8) : allWhole (runeL r ++ t) = allWhole t :=
  allWhole_app (whole_rune r t) (fun e => by have := (runeL_length r).1; rw [e] at this; simp at this)
theorem allWhole_bad (t : List UInt8) : allWhole (bad ++ t) = allWhole t := by
  rw [← runeL_bad']; exact allWhole_rune _ _
theorem list_ind {p : List UInt8 → Prop} (h : ∀ l, (∀ k : List UInt8, k.length < l.length → p k) → p l) (l : List UInt8) : p l := by
  suffices H : ∀ n, ∀ l : List UInt8, l.length < n → p l from H (l.length + 1) l (by omega)
  intro n
  induction n with
  | zero => intro l hl; omega
  | succ n ih => intro l hl; exact h l (fun k hk => ih k (by omega))
theorem allWhole_valid (l : List UInt8) : allWhole (validL l) = true := by
  refine list_ind (p := fun l => allWhole (validL l) = true) ?_ l
  intro l ih
  by_cases hl : l = []
  · subst hl; rw [validL_nil]; exact allWhole_nil
  · have hs := vStep_pos' l hl
    rw [validL_cons hl]
    have hi := ih (l.drop (vStep l).2) (by rw [List.length_drop]; omega)
    by_cases hz : wholeN l = 0
    · rw [vStep_zero hz] at hi ⊢
      rw [allWhole_bad]; exact hi
    · rw [vStep_pos rfl hz] at hi ⊢
      have hw := wholeN_le l
      rw [allWhole_app (by rw [whole_local l _ (by omega), List.length_take]; omega) (by intro e; have := congrArg List.length e; rw [List.length_take] at this; have h0 : ([] : List UInt8).length = 0 := rfl; omega)]
      exact hi
theorem valid_whole (l : List UInt8) (h : allWhole l = true) : validL l = l := by
  revert h
  refine list_ind (p := fun l => allWhole l = true → validL l = l) ?_ l
  intro l ih h
  by_cases hl : l = []
  · subst hl; exact validL_nil
  · by_cases hz : wholeN l = 0
    · rw [allWhole_zero hz hl] at h; cases h
    · rw [allWhole_pos hz] at h
      have hw := wholeN_le l
      rw [validL_cons hl, vStep_pos rfl hz]
      show l.take (wholeN l) ++ validL (l.drop (wholeN l)) = l
      rw [ih _ (by rw [List.length_drop]; omega) h, List.take_append_drop]
theorem validL_length (l : List UInt8) : (validL l).length ≤ 3 * l.length := by
  refine list_ind (p := fun l => (validL l).length ≤ 3 * l.length) ?_ l
  intro l ih
  by_cases hl : l = []
  · subst hl; rw [validL_nil]; simp
  · have hs := vStep_pos' l hl
    have hi := ih (l.drop (vStep l).2) (by rw [List.length_drop]; omega)
    rw [List.length_drop] at hi
    rw [validL_cons hl, List.length_append]; omega
theorem valid_plain (l : List UInt8) (h : ∀ c ∈ l, c.toNat < 128) : validL l = l := by
  apply valid_whole
  induction l with
  | nil => exact allWhole_nil
  | cons c l ih =>
    have h1 := w1 (r := l) (h c (List.mem_cons_self ..))
    rw [show c :: l = [c] ++ l from rfl] at h1 ⊢
    rw [allWhole_app (by rw [h1]; rfl) (by simp)]
    exact ih (fun x hx => h x (List.mem_cons_of_mem _ hx))
/-- a round of a reader -/
theorem valid_round {L acc T : List UInt8} (h : acc ++ validL L = T) (hi : L ≠ []) : (acc ++ (vStep L).1) ++ validL (L.drop (vStep L).2) = T := by
  rw [← h, validL_cons hi, List.append_assoc]

/-! ### windows-1252 -/
def winTab : List Int := [8364, 129, 8218, 402, 8222, 8230, 8224, 8225, 710, 8240, 352, 8249, 338, 141, 381, 143, 144, 8216, 8217, 8220, 8221, 8226, 8211, 8212, 732, 8482, 353, 8250, 339, 157, 382, 376]
def winR (c : UInt8) : Int := if 128 ≤ c.toNat ∧ c.toNat < 160 then winTab.getD (c.toNat - 128) 0 else c.toNat
def winL (l : List UInt8) : List UInt8 := l.flatMap fun c => runeL (winR c)
theorem winL_cons (c : UInt8) (l : List UInt8) : winL (c :: l) = runeL (winR c) ++ winL l := rfl
theorem winL_whole (l : List UInt8) : allWhole (winL l) = true := by
  induction l with
  | nil => exact allWhole_nil
  | cons c l ih => rw [winL_cons, allWhole_rune]; exact ih
theorem winR_length (c : UInt8) : (runeL (winR c)).length ≤ 3 :=
  u8_all (p := fun c => (runeL (winR c)).length ≤ 3) (by decide +kernel) c
theorem winL_length (l : List UInt8) : (winL l).length ≤ 3 * l.length := by
  induction l with
  | nil => simp [winL]
  | cons c l ih => have := winR_length c; rw [winL_cons, List.length_append, List.length_cons]; omega
theorem winR_plain (c : UInt8) (h : c.toNat < 128) : runeL (winR c) = [c] :=
  u8_all (p := fun c => c.toNat < 128 → runeL (winR c) = [c]) (by decide +kernel) c h
theorem winL_plain (l : List UInt8) (h : ∀ c ∈ l, c.toNat < 128) : winL l = l := by
  induction l with
  | nil => rfl
  | cons c l ih => rw [winL_cons, winR_plain c (h c (List.mem_cons_self ..)), ih (fun x hx => h x (List.mem_cons_of_mem _ hx))]; rfl
theorem winR_case (c : UInt8) : (c.toNat < 128 ∧ winR c = c.toNat) ∨ (128 ≤ c.toNat ∧ c.toNat < 160 ∧ winR c = winTab.getD (c.toNat - 128) 0) ∨ (160 ≤ c.toNat ∧ winR c = c.toNat) := by
  unfold winR
  by_cases h : 128 ≤ c.toNat ∧ c.toNat < 160
  · rw [if_pos h]; exact .inr (.inl ⟨h.1, h.2, rfl⟩)
  · rw [if_neg h]
    by_cases h' : c.toNat < 128
    · exact .inl ⟨h', rfl⟩
    · exact .inr (.inr ⟨by omega, rfl⟩)
theorem winR_range (c : UInt8) : 0 ≤ winR c ∧ winR c ≤ 65535 :=
  u8_all (p := fun c => 0 ≤ winR c ∧ winR c ≤ 65535) (by decide +kernel) c

/-! ### UTF-16 -/
/-- the number of two bytes; big: the higher one is first -/
def num (big : Bool) (a b : UInt8) : Nat := if big then 256 * a.toNat + b.toNat else 256 * b.toNat + a.toNat
theorem num_lt (big : Bool) (a b : UInt8) : num big a b < 65536 := by
  have := byte_lt a; have := byte_lt b
  unfold num; split <;> omega
def unitsL (big : Bool) : List UInt8 → List Nat
  | a :: b :: r => num big a b :: unitsL big r
  | _ => []
theorem units_cons (big : Bool) (a b : UInt8) (r : List UInt8) : unitsL big (a :: b :: r) = num big a b :: unitsL big r := rfl
def pairV (a b : Nat) : Int := 65536 + 1024 * ((a : Int) - 55296) + ((b : Int) - 56320)
def u16 : List Nat → List UInt8
  | a :: b :: r => if 55296 ≤ a ∧ a ≤ 56319 ∧ 56320 ≤ b ∧ b ≤ 57343 then runeL (pairV a b) ++ u16 r else runeL a ++ u16 (b :: r)
  | [a] => runeL a
  | [] => []
def tailL (l : List UInt8) : List UInt8 := if l.length % 2 = 1 then bad else []
def pairsL (big : Bool) (l : List UInt8) : List UInt8 := u16 (unitsL big l) ++ tailL l
theorem u16_whole (u : List Nat) (t : List UInt8) : allWhole (u16 u ++ t) = allWhole t := by
  suffices H : ∀ n, ∀ u : List Nat, u.length < n → allWhole (u16 u ++ t) = allWhole t from H (u.length + 1) u (by omega)
  intro n
  induction n with
  | zero => intro u hu; omega
  | succ n ih =>
    intro u hu
    match u, hu with
    | [], _ => rfl
    | [a], _ => exact allWhole_rune _ _
    | a :: b :: r, hu =>
      simp only [List.length_cons] at hu
      rw [u16]
      split
      · rw [List.append_assoc, allWhole_rune]; exact ih r (by omega)
      · rw [List.append_assoc, allWhole_rune]; exact ih (b :: r) (by simp; omega)
theorem pairsL_whole (big : Bool) (l : List UInt8) : allWhole (pairsL big l) = true := by
  unfold pairsL tailL
  rw [u16_whole]
  split
  · rw [← List.append_nil bad, allWhole_bad]; exact allWhole_nil
  · exact allWhole_nil
def fsT (big : Bool) (x : Nat) : List UInt8 → Int × Nat
  | c :: d :: _ => if 56320 ≤ num big c d ∧ num big c d < 57344 then (pairV x (num big c d), 4) else (65533, 2)
  | _ => (65533, 2)
/-- the sign that is ahead, and how many bytes it has -/
def fsS (big : Bool) : List UInt8 → Int × Nat
  | a :: b :: r => if num big a b < 55296 ∨ 57344 ≤ num big a b then (num big a b, 2) else if num big a b < 56320 then fsT big (num big a b) r else (65533, 2)
  | _ => (65533, 1)
theorem tailL_drop (l : List UInt8) (k : Nat) (h : 2 * k ≤ l.length) : tailL (l.drop (2 * k)) = tailL l := by
  unfold tailL; rw [List.length_drop, show (l.length - 2 * k) % 2 = l.length % 2 from by omega]
theorem pairs_step (big : Bool) (l : List UInt8) (h : 2 ≤ l.length) : pairsL big l = runeL (fsS big l).1 ++ pairsL big (l.drop (fsS big l).2) ∧ ((fsS big l).2 = 2 ∨ (fsS big l).2 = 4) ∧ (fsS big l).2 ≤ l.length ∧ 0 ≤ (fsS big l).1 ∧ (fsS big l).1 ≤ 1114111 := by
  match l, h with
  | a :: b :: r, h =>
    have hn := num_lt big a b
    have ht2 : tailL ((a :: b :: r).drop 2) = tailL (a :: b :: r) := tailL_drop _ 1 h
    by_cases h1 : num big a b < 55296 ∨ 57344 ≤ num big a b
    · have e : fsS big (a :: b :: r) = (((num big a b : Nat) : Int), 2) := by rw [fsS, if_pos h1]
      rw [e]
      refine ⟨?_, .inl rfl, h, by show (0 : Int) ≤ _; omega, by show ((num big a b : Nat) : Int) ≤ _; omega⟩
      unfold pairsL
      rw [ht2, ← List.append_assoc]
      congr 1
      show u16 (num big a b :: unitsL big r) = runeL _ ++ u16 (unitsL big r)
      cases unitsL big r with
      | nil => simp [u16]
      | cons y t => rw [u16, if_neg (by omega)]
    · by_cases h2 : num big a b < 56320
      · match r with
        | c :: d :: r =>
          have hm := num_lt big c d
          by_cases h3 : 56320 ≤ num big c d ∧ num big c d < 57344
          · have e : fsS big (a :: b :: c :: d :: r) = (pairV (num big a b) (num big c d), 4) := by rw [fsS, if_neg h1, if_pos h2, fsT, if_pos h3]
            rw [e]
            refine ⟨?_, .inr rfl, by simp, by show 0 ≤ pairV _ _; unfold pairV; omega, by show pairV _ _ ≤ _; unfold pairV; omega⟩
            have ht4 : tailL ((a :: b :: c :: d :: r).drop 4) = tailL (a :: b :: c :: d :: r) := tailL_drop _ 2 (by simp)
            unfold pairsL
            rw [ht4, ← List.append_assoc]
            congr 1
            show u16 (num big a b :: num big c d :: unitsL big r) = runeL _ ++ u16 (unitsL big r)
            rw [u16, if_pos (by omega)]
          · have e : fsS big (a :: b :: c :: d :: r) = (65533, 2) := by rw [fsS, if_neg h1, if_pos h2, fsT, if_neg h3]
            rw [e]
            refine ⟨?_, .inl rfl, h, by decide, by decide⟩
            unfold pairsL
            rw [ht2, ← List.append_assoc]
            congr 1
            show u16 (num big a b :: num big c d :: unitsL big r) = runeL _ ++ u16 (num big c d :: unitsL big r)
            rw [u16, if_neg (by omega), runeL_bad', runeL_bad (by omega)]
        | [] =>
          have e : fsS big [a, b] = (65533, 2) := by rw [fsS, if_neg h1, if_pos h2]; rfl
          rw [e]
          refine ⟨?_, .inl rfl, h, by decide, by decide⟩
          unfold pairsL
          rw [ht2, ← List.append_assoc]
          congr 1
          show u16 [num big a b] = runeL _ ++ u16 []
          rw [u16, u16, List.append_nil, runeL_bad', runeL_bad (by omega)]
        | [c] =>
          have e : fsS big [a, b, c] = (65533, 2) := by rw [fsS, if_neg h1, if_pos h2]; rfl
          rw [e]
          refine ⟨?_, .inl rfl, h, by decide, by decide⟩
          unfold pairsL
          rw [ht2, ← List.append_assoc]
          congr 1
          show u16 [num big a b] = runeL _ ++ u16 []
          rw [u16, u16, List.append_nil, runeL_bad', runeL_bad (by omega)]
      · have e : fsS big (a :: b :: r) = (65533, 2) := by rw [fsS, if_neg h1, if_neg h2]
        rw [e]
        refine ⟨?_, .inl rfl, h, by decide, by decide⟩
        unfold pairsL
        rw [ht2, ← List.append_assoc]
        congr 1
        show u16 (num big a b :: unitsL big r) = runeL _ ++ u16 (unitsL big r)
        rw [runeL_bad']
        cases unitsL big r with
        | nil => rw [u16, u16, List.append_nil, runeL_bad (by omega)]
        | cons y t => rw [u16, if_neg (by omega), runeL_bad (by omega)]
theorem pairs_short (big : Bool) (l : List UInt8) (h : l.length < 2) : pairsL big l = if l.length = 1 then bad else [] := by
  match l, h with
  | [], _ => rfl
  | [a], _ => rfl
theorem pairsL_length (big : Bool) (l : List UInt8) : (pairsL big l).length ≤ 3 * l.length := by
  refine list_ind (p := fun l => (pairsL big l).length ≤ 3 * l.length) ?_ l
  intro l ih
  by_cases h : 2 ≤ l.length
  · obtain ⟨h1, h2, h3, h4, h5⟩ := pairs_step big l h
    have hr := runeL_length (fsS big l).1
    have hi := ih (l.drop (fsS big l).2) (by rw [List.length_drop]; omega)
    rw [List.length_drop] at hi
    rw [h1, List.length_append]; omega
  · rw [pairs_short big l (by omega)]
    split
    · simp [bad]; omega
    · simp
/-- two by two, turned -/
def swapL : List UInt8 → List UInt8
  | a :: b :: r => b :: a :: swapL r
  | l => l
theorem swap_length (l : List UInt8) : (swapL l).length = l.length := by
  refine list_ind (p := fun l => (swapL l).length = l.length) ?_ l
  intro l ih
  match l, ih with
  | [], _ => rfl
  | [_], _ => rfl
  | a :: b :: r, ih => simp [swapL, ih r (by simp; omega)]
theorem swap_units (l : List UInt8) : unitsL true (swapL l) = unitsL false l := by
  refine list_ind (p := fun l => unitsL true (swapL l) = unitsL false l) ?_ l
  intro l ih
  match l, ih with
  | [], _ => rfl
  | [_], _ => rfl
  | a :: b :: r, ih =>
    rw [swapL, units_cons, units_cons, ih r (by simp; omega)]
    congr 1
theorem swap_pairs (l : List UInt8) : pairsL true (swapL l) = pairsL false l := by
  unfold pairsL tailL
  rw [swap_units, swap_length]

/-! ### the alphabets' names -/
def whiteSet : List UInt8 := [32, 9, 10, 12, 13]
def cleanL (l : List UInt8) : List UInt8 := lowL (Lib.trimS l whiteSet)
def labels : List (List UInt8) :=
  [[117, 116, 102, 45, 56], [117, 116, 102, 56], [117, 110, 105, 99, 111, 100, 101, 45, 49, 45, 49, 45, 117, 116, 102, 45, 56],
   [119, 105, 110, 100, 111, 119, 115, 45, 49, 50, 53, 50], [99, 112, 49, 50, 53, 50], [117, 115, 45, 97, 115, 99, 105, 105], [97, 115, 99, 105, 105], [105, 115, 111, 45, 56, 56, 53, 57, 45, 49], [105, 115, 111, 56, 56, 53, 57, 45, 49], [108, 97, 116, 105, 110, 49], [108, 49],
   [117, 116, 102, 45, 49, 54, 108, 101], [117, 116, 102, 45, 49, 54], [117, 110, 105, 99, 111, 100, 101], [117, 99, 115, 45, 50],
   [117, 116, 102, 45, 49, 54, 98, 101], [117, 110, 105, 99, 111, 100, 101, 102, 102, 102, 101]]
/-- which row of the table a cleaned label stands in; 0: none -/
def kindOf (x : List UInt8) : Nat := if labels.idxOf x < 3 then 1 else if labels.idxOf x < 11 then 2 else if labels.idxOf x < 15 then 3 else if labels.idxOf x < 17 then 4 else 0
def kindL (l : List UInt8) : Nat := kindOf (cleanL l)
def nameL : Nat → List UInt8
  | 1 => [117, 116, 102, 45, 56]
  | 2 => [119, 105, 110, 100, 111, 119, 115, 45, 49, 50, 53, 50]
  | 3 => [117, 116, 102, 45, 49, 54, 108, 101]
  | 4 => [117, 116, 102, 45, 49, 54, 98, 101]
  | _ => []
theorem kind_lt (l : List UInt8) : kindL l < 5 := by
  unfold kindL kindOf; repeat' split
  all_goals omega
/-- what Known answers -/
def knownV (k : Nat) : Value := .tuple #[.string (str (nameL k)), .bool (decide (0 < k))]
def decodeL (k : Nat) (l : List UInt8) : List UInt8 := if k = 2 then winL l else if k = 3 then pairsL false l else if k = 4 then pairsL true l else validL l
theorem decodeL_whole (k : Nat) (l : List UInt8) : allWhole (decodeL k l) = true := by
  unfold decodeL
  split
  · exact winL_whole l
  · split
    · exact pairsL_whole _ l
    · split
      · exact pairsL_whole _ l
      · exact allWhole_valid l
theorem decodeL_length (k : Nat) (l : List UInt8) : (decodeL k l).length ≤ 3 * l.length := by
  unfold decodeL
  split
  · exact winL_length l
  · split
    · exact pairsL_length _ l
    · split
      · exact pairsL_length _ l
      · exact validL_length l
theorem decodeL_plain (k : Nat) (l : List UInt8) (h : ∀ c ∈ l, c.toNat < 128) (h3 : k ≠ 3) (h4 : k ≠ 4) : decodeL k l = l := by
  unfold decodeL
  rw [if_neg h3, if_neg h4]
  split
  · exact winL_plain l h
  · exact valid_plain l h
end Go.Proofs.YtiojfknphpnlhaaDoor
