import Derived.Test.YtiejmkjpgjbodaaGreatDoorBaseN
namespace Go.Proofs.YtiejmkjpgjbodaaGreatDoor
set_option linter.unusedVariables false
set_option linter.unusedSimpArgs false
theorem lowC_two (c : UInt8) : lowC (lowC c) = lowC c := u8_all (p := fun c => lowC (lowC c) = lowC c) (by decide +kernel) c
theorem lowL_two (l : List UInt8) : lowL (lowL l) = lowL l := by
  unfold lowL
  rw [List.map_map]
  exact List.map_congr_left fun c _ => lowC_two c
def FormA (A : List AtL) : Prop := A.length ≤ 30 ∧ A.Pairwise (fun a b => a.1 ≠ b.1)
theorem formA_add {A : List AtL} {a : AtL} (h : FormA A) : FormA (if countsB A a.1 = true then A ++ [a] else A) := by
  split
  · rename_i hc
    unfold countsB at hc
    rw [Bool.and_eq_true, decide_eq_true_eq, Bool.not_eq_true', List.any_eq_false] at hc
    refine ⟨by rw [List.length_append]; simp; omega, ?_⟩
    rw [List.pairwise_append]
    refine ⟨h.2, List.pairwise_singleton _ _, fun x hx y hy => ?_⟩
    obtain rfl := List.mem_singleton.1 hy
    have := hc.2 x hx
    simpa using this
  · exact h
theorem tag_form {dec : List UInt8 → List UInt8} {l n b : List UInt8} {A : List AtL} (h : tagL dec l = some (n, A, b)) : FormA A ∧ lowL n = n := by
  unfold tagL at h
  cases ha : attrsLL dec [] (upL nameEndB l).2 with
  | none => rw [ha] at h; cases h
  | some p =>
    obtain ⟨B, x⟩ := p
    rw [ha] at h
    injection h with h
    injection h with h1 h
    injection h with h2 _
    obtain ⟨_, h3, _⟩ := attrsLL_ind dec (P := fun A _ => FormA A) (fun A l c r _ _ hA => formA_add hA) _ [] _ (Nat.le_refl _) ⟨by simp, List.Pairwise.nil⟩ B x ha
    rw [← h1, ← h2]
    exact ⟨h3, lowL_two _⟩
def FormT (t : TokL) : Prop := (t.kind = 1 → t.text ≠ []) ∧ lowL t.name = t.name ∧ t.attrs.length ≤ 30 ∧ (t.kind ≠ 2 → t.attrs = []) ∧ t.attrs.Pairwise (fun a b => a.1 ≠ b.1)
theorem form_chars {x : List UInt8} (h : x ≠ []) : FormT (charsT x) := ⟨fun _ => h, rfl, by simp [charsT], fun _ => rfl, List.Pairwise.nil⟩
theorem form_rem (x : List UInt8) : FormT (remT x) := ⟨fun e => absurd (show (4 : Nat) = 1 from e) (by decide), rfl, by simp [remT], fun _ => rfl, List.Pairwise.nil⟩
theorem form_end {n : List UInt8} (h : lowL n = n) : FormT (endT n) := ⟨fun e => absurd (show (3 : Nat) = 1 from e) (by decide), h, by simp [endT], fun _ => rfl, List.Pairwise.nil⟩
theorem form_start {n : List UInt8} {A : List AtL} (h : lowL n = n) (hA : FormA A) : FormT (startT n A) := ⟨fun e => absurd (show (2 : Nat) = 1 from e) (by decide), h, hA.1, fun e => absurd rfl e, hA.2⟩
theorem mark_form (dec : List UInt8 → List UInt8) (l : List UInt8) : (∀ t, (markL dec l).1 = some t → FormT t ∧ t.kind ≠ 1) ∧ ((markL dec l).1 = none → (markL dec l).2.1 = []) ∧ (markL dec l).2.1.length + (markL dec l).2.2.length ≤ l.length := by
  have hrem : ∀ k : List UInt8, (∀ t, (remL k).1 = some t → FormT t ∧ t.kind ≠ 1) ∧ ((remL k).1 = none → (remL k).2.1 = []) ∧ (remL k).2.1.length + (remL k).2.2.length ≤ k.length := fun k =>
    ⟨fun t ht => (by injection ht with ht; rw [← ht]; exact ⟨form_rem _, show (4 : Nat) ≠ 1 by decide⟩), fun h => (by cases h), by have := remL_len k; simpa [remL] using this⟩
  have hlong : ∀ k : List UInt8, (∀ t, (longL k).1 = some t → FormT t ∧ t.kind ≠ 1) ∧ ((longL k).1 = none → (longL k).2.1 = []) ∧ (longL k).2.1.length + (longL k).2.2.length ≤ k.length := fun k => by
    have h3 := longL_len k
    unfold longL at h3 ⊢
    split
    · exact ⟨fun t ht => (by injection ht with ht; rw [← ht]; exact ⟨form_rem _, show (4 : Nat) ≠ 1 by decide⟩), fun h => (by cases h), by simp⟩
    · exact ⟨fun t ht => (by injection ht with ht; rw [← ht]; exact ⟨form_rem _, show (4 : Nat) ≠ 1 by decide⟩), fun h => (by cases h), by simp; omega⟩
    · exact ⟨fun t ht => (by injection ht with ht; rw [← ht]; exact ⟨form_rem _, show (4 : Nat) ≠ 1 by decide⟩), fun h => (by cases h), by have := cutAt_len remEnd k; simpa using this⟩
  have hend : ∀ k : List UInt8, (∀ t, (endL dec k).1 = some t → FormT t ∧ t.kind ≠ 1) ∧ ((endL dec k).1 = none → (endL dec k).2.1 = []) ∧ (endL dec k).2.1.length + (endL dec k).2.2.length ≤ k.length := fun k => by
    have h3 := endL_len dec k
    unfold endL at h3 ⊢
    cases h : tagL dec k with
    | none => exact ⟨fun t ht => (by cases ht), fun _ => rfl, by simp⟩
    | some p =>
      obtain ⟨n, A, b⟩ := p
      rw [h] at h3
      exact ⟨fun t ht => (by injection ht with ht; rw [← ht]; exact ⟨form_end (tag_form h).2, show (3 : Nat) ≠ 1 by decide⟩), fun h => (by cases h), by simpa using h3⟩
  have hstart : ∀ k : List UInt8, (∀ t, (startL dec k).1 = some t → FormT t ∧ t.kind ≠ 1) ∧ ((startL dec k).1 = none → (startL dec k).2.1 = []) ∧ (startL dec k).2.1.length + (startL dec k).2.2.length ≤ k.length := fun k => by
    unfold startL
    cases h : tagL dec k with
    | none => exact ⟨fun t ht => (by cases ht), fun _ => rfl, by simp⟩
    | some p =>
      obtain ⟨n, A, b⟩ := p
      have h4 := tagL_len h
      obtain ⟨h5, h6⟩ := tag_form h
      simp only
      split
      · refine ⟨fun t ht => (by injection ht with ht; rw [← ht]; exact ⟨form_start h6 h5, show (2 : Nat) ≠ 1 by decide⟩), fun h => (by cases h), ?_⟩
        show (b.take _).length + (b.drop _).length ≤ _
        rw [← List.length_append, List.take_append_drop]; omega
      · refine ⟨fun t ht => (by injection ht with ht; rw [← ht]; exact ⟨form_start h6 h5, show (2 : Nat) ≠ 1 by decide⟩), fun h => (by cases h), ?_⟩
        show ([] : List UInt8).length + b.length ≤ _
        simp; omega
  unfold markL
  split
  · rename_i r
    split
    · exact ⟨fun t ht => (by cases ht), fun _ => rfl, by simp⟩
    · rename_i c q
      split
      · obtain ⟨a, b, d⟩ := hend (c :: q)
        exact ⟨a, b, by simp only [List.length_cons] at d ⊢; omega⟩
      · split
        · exact ⟨fun t ht => (by cases ht), fun _ => rfl, by simp; omega⟩
        · obtain ⟨a, b, d⟩ := hrem (c :: q)
          exact ⟨a, b, by simp only [List.length_cons] at d ⊢; omega⟩
  · rename_i r
    split
    · rename_i x
      obtain ⟨a, b, d⟩ := hlong x
      exact ⟨a, b, by simp only [List.length_cons] at d ⊢; omega⟩
    · obtain ⟨a, b, d⟩ := hrem r
      exact ⟨a, b, by simp only [List.length_cons] at d ⊢; omega⟩
  · rename_i r
    exact hrem (63 :: r)
  · exact hstart l
def FormsL (L : List TokL) : Prop := (∀ t ∈ L, FormT t) ∧ ∀ (i : Nat) (a b : TokL), L[i]? = some a → L[i + 1]? = some b → ¬ (a.kind = 1 ∧ b.kind = 1)
def EndsL (L : List TokL) : Prop := ∀ t, L.getLast? = some t → t.kind ≠ 1
theorem forms_snoc {L : List TokL} {t : TokL} (h : FormsL L) (ht : FormT t) (he : t.kind = 1 → EndsL L) : FormsL (L ++ [t]) := by
  refine ⟨fun x hx => ?_, fun i a b ha hb => ?_⟩
  · rcases List.mem_append.1 hx with hx | hx
    · exact h.1 x hx
    · obtain rfl := List.mem_singleton.1 hx
      exact ht
  · by_cases h1 : i + 1 < L.length
    · rw [List.getElem?_append_left h1] at hb
      rw [List.getElem?_append_left (by omega)] at ha
      exact h.2 i a b ha hb
    · have h2 : i + 1 = L.length := by
        have := (List.getElem?_eq_some_iff.1 hb).1
        simp at this; omega
      rw [h2, List.getElem?_append_right (Nat.le_refl _)] at hb
      simp at hb
      rw [List.getElem?_append_left (by omega)] at ha
      rintro ⟨k1, k2⟩
      rw [← hb] at k2
      have hl : L.getLast? = some a := by rw [List.getLast?_eq_getElem?, show L.length - 1 = i by omega]; exact ha
      exact he k2 a hl k1
theorem flush_forms {L : List TokL} {x : List UInt8} (h : FormsL L) (he : EndsL L) : FormsL (flushT L x) := by
  unfold flushT
  split
  · exact h
  · rename_i hx
    exact forms_snoc h (form_chars hx) (fun _ => he)
theorem ends_snoc {L : List TokL} {t : TokL} (h : t.kind ≠ 1) : EndsL (L ++ [t]) := by
  intro u hu
  rw [List.getLast?_append] at hu
  simp at hu
  rw [← hu]; exact h
def sz1 (x : List UInt8) : Nat := if x = [] then 0 else 1
theorem flush_len (L : List TokL) (x : List UInt8) : (flushT L x).length = L.length + sz1 x := by
  unfold flushT sz1
  split <;> simp
theorem scan_forms (dec : List UInt8 → List UInt8) : ∀ (k : Nat) (l : List UInt8) (L : List TokL) (x : List UInt8), l.length ≤ k → FormsL L → EndsL L → FormsL (scanL dec L x l) ∧ (scanL dec L x l).length ≤ L.length + sz1 x + l.length := by
  intro k
  induction k with
  | zero =>
    intro l L x hl h he
    obtain rfl : l = [] := List.eq_nil_of_length_eq_zero (by omega)
    rw [scanL_nil]
    exact ⟨flush_forms h he, by rw [flush_len]; simp⟩
  | succ k ih =>
    intro l L x hl h he
    cases l with
    | nil =>
      rw [scanL_nil]
      exact ⟨flush_forms h he, by rw [flush_len]; simp⟩
    | cons c r =>
      by_cases hm : 0 < markN (c :: r)
      · rw [scanL_text dec L x hm]
        have h1 := markN_le (c :: r)
        have h2 : ((c :: r).drop (markN (c :: r))).length = (c :: r).length - markN (c :: r) := List.length_drop
        obtain ⟨a, b⟩ := ih ((c :: r).drop (markN (c :: r))) L (x ++ dec ((c :: r).take (markN (c :: r)))) (by rw [h2]; omega) h he
        refine ⟨a, ?_⟩
        have h3 : sz1 (x ++ dec ((c :: r).take (markN (c :: r)))) ≤ sz1 x + 1 := by unfold sz1; split <;> split <;> omega
        omega
      · have hmk : isMarkB (c :: r) = true := markN_zero (by omega)
        rw [scanL_mark dec L x hmk]
        obtain ⟨m1, m2, m3⟩ := mark_form dec r
        have hlen : (c :: r).length = r.length + 1 := rfl
        have hrk : (markL dec r).2.2.length ≤ k := by omega
        unfold addT
        cases ho : (markL dec r).1 with
        | none =>
          have e := m2 ho
          simp only
          rw [e, List.append_nil]
          obtain ⟨a, b⟩ := ih (markL dec r).2.2 L x hrk h he
          exact ⟨a, by omega⟩
        | some t =>
          obtain ⟨f1, f2⟩ := m1 t ho
          simp only
          obtain ⟨a, b⟩ := ih (markL dec r).2.2 (flushT L x ++ [t]) (markL dec r).2.1 hrk (forms_snoc (flush_forms h he) f1 (fun e => absurd e f2)) (ends_snoc f2)
          refine ⟨a, ?_⟩
          have h3 : sz1 (markL dec r).2.1 ≤ (markL dec r).2.1.length := by
            unfold sz1
            split
            · omega
            · rename_i hne
              exact List.length_pos_iff.2 hne
          rw [List.length_append, flush_len] at b
          simp only [List.length_cons, List.length_nil] at b
          omega
end Go.Proofs.YtiejmkjpgjbodaaGreatDoor
