import Derived.Test.YtiejmkjpgjbodaaGreatDoorSerS
namespace Go.Proofs.YtiejmkjpgjbodaaGreatDoor
open Go.RowKit
set_option linter.unusedVariables false
set_option linter.unusedSimpArgs false
set_option maxRecDepth 100000
theorem small_parts {h : NdH} (hs : smallH h = true) : h.name.length ≤ 300 ∧ h.text.length ≤ 300 := by
  unfold smallH fitT at hs
  simp only [Bool.and_eq_true, decide_eq_true_eq] at hs
  exact ⟨hs.1, hs.2.1⟩
theorem startW_len {h : NdH} (hs : smallH h = true) : (startW h).length ≤ 84500 := by
  have e := tokG_start (p := (2, (⟨0, h.name, h.attrs, []⟩ : TokL))) rfl
  have := tokG_len (p := (2, (⟨0, h.name, h.attrs, []⟩ : TokL))) (small_tok hs)
  rw [e] at this
  exact this
theorem endW_len {h : NdH} (hs : smallH h = true) : (endW h).length ≤ 303 := by
  have := (small_parts hs).1
  unfold endW
  simp only [List.length_cons, List.length_append, List.length_nil]
  omega
theorem textW_len {h : NdH} (hs : smallH h = true) : (escQ false h.text).length ≤ 84500 := by
  have hf : fitT (⟨0, [], [], h.text⟩ : TokL) = true := by
    unfold fitT
    simp only [Bool.and_eq_true, decide_eq_true_eq]
    exact ⟨Nat.zero_le _, (small_parts hs).2, Nat.zero_le _, rfl⟩
  have := tokG_len (p := (1, (⟨0, [], [], h.text⟩ : TokL))) hf
  rw [tokG_chars rfl] at this
  exact this
theorem rawK_len (T : Tr) (ha : T.all smallH = true) : (rawK T).length ≤ 85000 * T.count := by
  induction T with
  | nil => exact Nat.le_refl _
  | cons h K R ihk ihr =>
    simp only [Tr.all, Bool.and_eq_true] at ha
    have h1 := ihr ha.2.2
    have h2 := (small_parts ha.1).2
    simp only [rawK, List.length_append, Tr.count]
    have h3 : (if h.name = [] then h.text else []).length ≤ 300 := by split <;> first | exact h2 | exact Nat.zero_le _
    omega
theorem writeT_len (T : Tr) (ha : T.all smallH = true) : (writeT T).length ≤ 85000 * T.count := by
  induction T with
  | nil => exact Nat.le_refl _
  | cons h K R ihk ihr =>
    simp only [Tr.all, Bool.and_eq_true] at ha
    have h1 := ihr ha.2.2
    have h2 := ihk ha.2.1
    have h3 := rawK_len K ha.2.1
    have h4 := startW_len ha.1
    have h5 := endW_len ha.1
    have h6 := textW_len ha.1
    simp only [writeT, List.length_append, Tr.count]
    split
    · omega
    · split
      · omega
      · simp only [List.length_append]
        split <;> omega
theorem small_write {T : Tr} (hc : T.count ≤ 60) (ha : T.all smallH = true) : (writeT T).length ≤ 5100000 := by
  have := writeT_len T ha
  omega
theorem app_len (a b : Tr) : (a.app b).len = a.len + b.len := by induction a with
  | nil => simp [Tr.app, Tr.len]
  | cons h K R _ ih => simp only [Tr.app, Tr.len, ih]; omega
end Go.Proofs.YtiejmkjpgjbodaaGreatDoor
