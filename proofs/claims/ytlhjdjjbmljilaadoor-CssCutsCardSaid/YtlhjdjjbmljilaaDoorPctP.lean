/- What package pct computes, as functions on lists of bytes, and facts on them. No statement is proved here. -/
import Derived.Test.YtlhjdjjbmljilaaDoorHexP
import Derived.Test.YtlhjdjjbmljilaaDoorLow
namespace Go.Proofs.YtlhjdjjbmljilaaDoor
set_option linter.unusedVariables false
set_option linter.unusedSimpArgs false
set_option maxRecDepth 100000

/-- a byte that stays -/
def stayB (c : UInt8) : Bool := (97 ≤ c && c ≤ 122) || (65 ≤ c && c ≤ 90) || (48 ≤ c && c ≤ 57) || c == 45 || c == 46 || c == 95 || c == 126
def pSign (c : UInt8) : List UInt8 := if stayB c then [c] else [37, hexHi c, hexLo c]
def penc (l : List UInt8) : List UInt8 := l.flatMap pSign
/-- the byte that c, with r behind it, tells; how many bytes tell it -/
def pStep (c : UInt8) (r : List UInt8) : UInt8 × Nat := if c = 37 then (hex2 r).elim (c, 1) (fun b => (b, 3)) else (c, 1)
def pdec (l : List UInt8) : List UInt8 :=
  match l with
  | [] => []
  | c :: r => (pStep c r).1 :: pdec (r.drop ((pStep c r).2 - 1))
termination_by l.length
decreasing_by simp; omega

theorem pdec_nil : pdec [] = [] := by rw [pdec]
theorem pdec_cons (c : UInt8) (r : List UInt8) : pdec (c :: r) = (pStep c r).1 :: pdec (r.drop ((pStep c r).2 - 1)) := by rw [pdec]
theorem pStep_cases (c : UInt8) (r : List UInt8) : (c = 37 ∧ ∃ b, hex2 r = some b ∧ pStep c r = (b, 3) ∧ 2 ≤ r.length) ∨ ((c ≠ 37 ∨ hex2 r = none) ∧ pStep c r = (c, 1)) := by
  unfold pStep
  by_cases h : c = 37
  · rw [if_pos h]
    cases hx : hex2 r with
    | none => exact .inr ⟨.inr rfl, rfl⟩
    | some b => exact .inl ⟨h, b, rfl, rfl, hex2_len hx⟩
  · rw [if_neg h]; exact .inr ⟨.inl h, rfl⟩
theorem pStep_le (c : UInt8) (r : List UInt8) : 1 ≤ (pStep c r).2 ∧ (pStep c r).2 ≤ 3 ∧ (pStep c r).2 ≤ r.length + 1 := by
  rcases pStep_cases c r with ⟨_, b, _, h, hl⟩ | ⟨_, h⟩
  · rw [h]; simp; omega
  · rw [h]; simp
theorem pdec_length (l : List UInt8) : (pdec l).length ≤ l.length ∧ l.length ≤ 3 * (pdec l).length := by
  suffices H : ∀ n, ∀ l : List UInt8, l.length ≤ n → (pdec l).length ≤ l.length ∧ l.length ≤ 3 * (pdec l).length from H _ l (Nat.le_refl _)
  intro n
  induction n with
  | zero => intro l hl; have : l = [] := List.eq_nil_of_length_eq_zero (by omega); subst this; simp [pdec_nil]
  | succ n ih =>
    intro l hl
    match l, hl with
    | [], _ => simp [pdec_nil]
    | c :: r, hl =>
      have h := pStep_le c r
      rw [List.length_cons] at hl
      have := ih (r.drop ((pStep c r).2 - 1)) (by rw [List.length_drop]; omega)
      rw [List.length_drop] at this
      rw [pdec_cons, List.length_cons, List.length_cons]
      omega

theorem pSign_length (c : UInt8) : 1 ≤ (pSign c).length ∧ (pSign c).length ≤ 3 := by unfold pSign; split <;> simp
theorem penc_nil : penc [] = [] := rfl
theorem penc_cons (c : UInt8) (l : List UInt8) : penc (c :: l) = pSign c ++ penc l := rfl
theorem penc_append (a b : List UInt8) : penc (a ++ b) = penc a ++ penc b := by simp [penc]
theorem penc_length (l : List UInt8) : l.length ≤ (penc l).length ∧ (penc l).length ≤ 3 * l.length := by
  induction l with
  | nil => simp [penc_nil]
  | cons c l ih =>
    have := pSign_length c
    rw [penc_cons, List.length_append, List.length_cons]; omega
theorem stay_ne (c : UInt8) (h : stayB c = true) : c ≠ 37 :=
  u8_all (p := fun c => stayB c = true → c ≠ 37) (by decide +kernel) c h
theorem pdec_sign (c : UInt8) (t : List UInt8) : pdec (pSign c ++ t) = c :: pdec t := by
  unfold pSign
  by_cases h : stayB c = true
  · rw [if_pos h]
    show pdec (c :: t) = _
    rw [pdec_cons, pStep, if_neg (stay_ne c h)]; rfl
  · rw [if_neg h]
    show pdec (37 :: hexHi c :: hexLo c :: t) = _
    have hf := hex_facts c
    rw [pdec_cons, pStep, if_pos rfl, hex2, if_pos ⟨hf.1, hf.2.1⟩, hf.2.2.1]; rfl
theorem pdec_penc (l : List UInt8) : pdec (penc l) = l := by
  induction l with
  | nil => exact pdec_nil
  | cons c l ih => rw [penc_cons, pdec_sign, ih]

theorem hex2_app {r b : List UInt8} (h : 2 ≤ r.length) : hex2 (r ++ b) = hex2 r := by
  match r, h with
  | _ :: _ :: _, _ => rfl
theorem pdec_append (a b : List UInt8) (h : ∀ x ∈ a.drop (a.length - 2), x ≠ 37) : pdec (a ++ b) = pdec a ++ pdec b := by
  suffices H : ∀ n, ∀ a : List UInt8, a.length ≤ n → (∀ x ∈ a.drop (a.length - 2), x ≠ 37) → pdec (a ++ b) = pdec a ++ pdec b from H _ a (Nat.le_refl _) h
  intro n
  induction n with
  | zero => intro l hl _; have : l = [] := List.eq_nil_of_length_eq_zero (by omega); subst this; simp [pdec_nil]
  | succ n ih =>
    intro l hl hx
    match l, hl, hx with
    | [], _, _ => simp [pdec_nil]
    | c :: r, hl, hx =>
      rw [List.length_cons] at hl
      have hr : ∀ k, k ≤ r.length → ∀ x ∈ (r.drop k).drop ((r.drop k).length - 2), x ≠ 37 := by
        intro k hk x hm
        refine hx x ?_
        rw [List.drop_drop, List.length_drop] at hm
        have hsub : ∀ m n : Nat, n ≤ m → ∀ y ∈ (c :: r).drop m, y ∈ (c :: r).drop n := fun m n hmn y hy => by
          have : (c :: r).drop m = ((c :: r).drop n).drop (m - n) := by rw [List.drop_drop]; congr 1; omega
          rw [this] at hy
          exact List.mem_of_mem_drop hy
        refine hsub (k + (r.length - k - 2) + 1) _ ?_ x hm
        rw [List.length_cons]; omega
      rw [List.cons_append, pdec_cons, pdec_cons]
      have hst : pStep c (r ++ b) = pStep c r := by
        unfold pStep
        by_cases h37 : c = 37
        · rw [if_pos h37, if_pos h37]
          have : 2 ≤ r.length := by
            rcases Nat.lt_or_ge r.length 2 with h2 | h2
            · exfalso
              refine hx c ?_ h37
              rw [List.length_cons, show r.length + 1 - 2 = 0 from by omega]
              simp
            · exact h2
          rw [hex2_app this]
        · rw [if_neg h37, if_neg h37]
      rw [hst]
      have hle := pStep_le c r
      rw [List.drop_append_of_le_length (by omega)]
      rw [ih (r.drop ((pStep c r).2 - 1)) (by rw [List.length_drop]; omega) (hr _ (by omega))]
      rfl

/-- a round of a reader -/
theorem pdec_round {T acc : List UInt8} {c : UInt8} {r L : List UInt8} (h : acc ++ pdec L = T) (hc : L = c :: r) : (acc ++ [(pStep c r).1]) ++ pdec (L.drop (pStep c r).2) = T := by
  subst hc
  rw [← h, pdec_cons, List.append_assoc]
  have hle := pStep_le c r
  obtain ⟨n, hn⟩ : ∃ n, (pStep c r).2 = n + 1 := ⟨(pStep c r).2 - 1, by omega⟩
  rw [hn, List.drop_succ_cons, Nat.add_sub_cancel]; rfl

/-! ### what stands ahead of a byte, and behind it -/
def beforeC (c : UInt8) (l : List UInt8) : List UInt8 := l.takeWhile fun x => x != c
def hasC (c : UInt8) (l : List UInt8) : Bool := decide (c ∈ l)
theorem hasC_true {c : UInt8} {l : List UInt8} (h : c ∈ l) : hasC c l = true := decide_eq_true h
theorem hasC_false {c : UInt8} {l : List UInt8} (h : c ∉ l) : hasC c l = false := decide_eq_false h
def afterC (c : UInt8) (l : List UInt8) : List UInt8 := (l.dropWhile fun x => x != c).drop 1
theorem cut_none (c : UInt8) (l : List UInt8) (h : c ∉ l) : beforeC c l = l ∧ afterC c l = [] := by
  induction l with
  | nil => exact ⟨rfl, rfl⟩
  | cons a l ih =>
    have h1 : (a != c) = true := by
      rw [bne_iff_ne]; rintro rfl; exact h (List.mem_cons_self ..)
    have h2 := ih (fun hm => h (List.mem_cons_of_mem _ hm))
    unfold beforeC afterC at h2 ⊢
    rw [List.takeWhile_cons, List.dropWhile_cons, h1]
    simp [h2]
theorem cut_at (c : UInt8) (l : List UInt8) (o : Nat) (ho : o < l.length) (h : l[o] = c) (hb : ∀ j (hj : j < o), l[j]'(Nat.lt_trans hj ho) ≠ c) : c ∈ l ∧ beforeC c l = l.take o ∧ afterC c l = l.drop (o + 1) := by
  refine ⟨h ▸ List.getElem_mem ho, ?_⟩
  induction o generalizing l with
  | zero =>
    match l, ho, h with
    | a :: l, _, h =>
      have : (a != c) = false := by rw [bne_eq_false_iff_eq]; exact h
      unfold beforeC afterC
      rw [List.takeWhile_cons, List.dropWhile_cons, this]
      simp
  | succ o ih =>
    match l, ho, h, hb with
    | a :: l, ho, h, hb =>
      have h1 : (a != c) = true := by rw [bne_iff_ne]; exact hb 0 (by omega)
      have := ih l (by simpa using ho) (by simpa using h) (fun j hj => by simpa using hb (j + 1) (by omega))
      unfold beforeC afterC at this ⊢
      rw [List.takeWhile_cons, List.dropWhile_cons, h1]
      simp [this]

/-- the alphabet and the bytes of a value -/
def pExt (l : List UInt8) : Option (List UInt8 × List UInt8) :=
  if hasC 39 (afterC 39 l) then some (lowL (beforeC 39 l), pdec (afterC 39 (afterC 39 l))) else none
/-- what Extended answers -/
def extV : Option (List UInt8 × List UInt8) → Value
  | some (a, b) => .tuple #[.string (str a), .string (str b), .bool true]
  | none => .tuple #[.string ⟨#[]⟩, .string ⟨#[]⟩, .bool false]
end Go.Proofs.YtlhjdjjbmljilaaDoor
