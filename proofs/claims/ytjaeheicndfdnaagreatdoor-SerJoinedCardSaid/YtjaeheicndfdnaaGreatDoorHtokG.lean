/- PURE: no name of a token is longer than the document. No statement is proved here. Own work of the verifier. -/
import Derived.Test.YtjaeheicndfdnaaGreatDoorHtokQ
namespace Go.Proofs.YtjaeheicndfdnaaGreatDoor
set_option linter.unusedVariables false
set_option linter.unusedSimpArgs false
theorem tag_name {dec : List UInt8 → List UInt8} {l n b : List UInt8} {A : List AtL} (h : tagL dec l = some (n, A, b)) : n.length ≤ l.length := by
  unfold tagL at h
  cases ha : attrsLL dec [] (upL nameEndB l).2 with
  | none => rw [ha] at h; cases h
  | some p =>
    obtain ⟨B, x⟩ := p
    rw [ha] at h
    injection h with h
    injection h with h1 _
    rw [← h1]
    unfold lowL
    rw [List.length_map]
    have := upL_len nameEndB l
    omega
theorem start_name (dec : List UInt8 → List UInt8) (l : List UInt8) (t : TokL) (h : (startL dec l).1 = some t) : t.name.length ≤ l.length := by
  unfold startL at h
  cases ht : tagL dec l with
  | none => rw [ht] at h; cases h
  | some p =>
    obtain ⟨n, A, b⟩ := p
    rw [ht] at h
    simp only at h
    have := tag_name ht
    split at h
    · injection h with h; rw [← h]; exact this
    · injection h with h; rw [← h]; exact this
theorem end_name (dec : List UInt8 → List UInt8) (l : List UInt8) (t : TokL) (h : (endL dec l).1 = some t) : t.name.length ≤ l.length := by
  unfold endL at h
  cases ht : tagL dec l with
  | none => rw [ht] at h; cases h
  | some p =>
    obtain ⟨n, A, b⟩ := p
    rw [ht] at h
    injection h with h
    rw [← h]; exact tag_name ht
theorem rem_name (l : List UInt8) (t : TokL) (h : (remL l).1 = some t) : t.name = [] := by
  injection h with h
  rw [← h]; rfl
theorem long_name (l : List UInt8) (t : TokL) (h : (longL l).1 = some t) : t.name = [] := by
  unfold longL at h
  split at h <;> (injection h with h; rw [← h]; rfl)
theorem mark_name (dec : List UInt8 → List UInt8) (l : List UInt8) (t : TokL) (h : (markL dec l).1 = some t) : t.name.length ≤ l.length := by
  unfold markL at h
  split at h
  · rename_i r
    split at h
    · cases h
    · rename_i c q
      split at h
      · have := end_name dec _ t h
        simp only [List.length_cons] at this ⊢; omega
      · split at h
        · cases h
        · rw [rem_name _ t h]; exact Nat.zero_le _
  · rename_i r
    split at h
    · rw [long_name _ t h]; exact Nat.zero_le _
    · rw [rem_name _ t h]; exact Nat.zero_le _
  · rw [rem_name _ t h]; exact Nat.zero_le _
  · exact start_name dec _ t h
theorem flush_names {N : Nat} {L : List TokL} (h : ∀ t ∈ L, t.name.length ≤ N) (x : List UInt8) : ∀ t ∈ flushT L x, t.name.length ≤ N := by
  unfold flushT
  split
  · exact h
  · intro t ht
    rcases List.mem_append.1 ht with ht | ht
    · exact h t ht
    · obtain rfl := List.mem_singleton.1 ht
      exact Nat.zero_le _
theorem scan_names (dec : List UInt8 → List UInt8) (N : Nat) : ∀ (k : Nat) (l : List UInt8) (L : List TokL) (x : List UInt8), l.length ≤ k → l.length ≤ N → (∀ t ∈ L, t.name.length ≤ N) → ∀ t ∈ scanL dec L x l, t.name.length ≤ N := by
  intro k
  induction k with
  | zero =>
    intro l L x hl _ h
    obtain rfl : l = [] := List.eq_nil_of_length_eq_zero (by omega)
    rw [scanL_nil]
    exact flush_names h x
  | succ k ih =>
    intro l L x hl hN h
    cases l with
    | nil => rw [scanL_nil]; exact flush_names h x
    | cons c r =>
      by_cases hm : 0 < markN (c :: r)
      · rw [scanL_text dec L x hm]
        have h2 : ((c :: r).drop (markN (c :: r))).length = (c :: r).length - markN (c :: r) := List.length_drop
        exact ih _ L _ (by rw [h2]; omega) (by rw [h2]; omega) h
      · have hmk : isMarkB (c :: r) = true := markN_zero (by omega)
        rw [scanL_mark dec L x hmk]
        have hlen : (c :: r).length = r.length + 1 := rfl
        have hml := markL_len dec r
        refine ih _ _ _ (by omega) (by omega) ?_
        unfold addT
        cases ho : (markL dec r).1 with
        | none => exact h
        | some u =>
          intro t ht
          simp only at ht
          rcases List.mem_append.1 ht with ht | ht
          · exact flush_names h x t ht
          · obtain rfl := List.mem_singleton.1 ht
            have := mark_name dec r t ho
            omega
end Go.Proofs.YtjaeheicndfdnaaGreatDoor
