/- fold, as pure data: what the laws ask. No statement is proved here. Own work of the verifier. -/
import Derived.Test.YtjaeheicndfdnaaDoorFoldQ
namespace Go.Proofs.YtjaeheicndfdnaaDoor
open Go.RowKit
set_option linter.unusedVariables false
set_option linter.unusedSimpArgs false
set_option maxRecDepth 100000
def dOf (T : Tr) : List NdH := T.list.map Prod.fst
theorem foldT_yes {T : Tr} {p : Nat} (h : whereP (dOf T) = (p, true)) : foldT T = (Tr.of (T.list.take p)).app (.cons foldH (Tr.drop p T) .nil) := by
  unfold foldT
  have h' : whereP (T.list.map Prod.fst) = (p, true) := h
  rw [h', if_pos rfl, Tr.of_app]
  rfl
theorem foldT_no {T : Tr} {p : Nat} (h : whereP (dOf T) = (p, false)) : foldT T = T := by
  unfold foldT
  have h' : whereP (T.list.map Prod.fst) = (p, false) := h
  rw [h', if_neg (by simp)]
theorem foldT_list {T : Tr} {p : Nat} (h : whereP (dOf T) = (p, true)) : (foldT T).list = T.list.take p ++ [(foldH, Tr.drop p T)] := by
  rw [foldT_yes h, Tr.list_app, Tr.list_of]; rfl
/-- P21.4 -/
theorem open_fold {T : Tr} {p : Nat} (h : whereP (dOf T) = (p, true)) : openT (foldT T) = T := by
  unfold openT
  rw [foldT_list h, List.getLast?_concat, List.dropLast_concat]
  show (if isFoldN foldH = true then _ else _) = T
  rw [if_pos (by decide)]
  exact cut_app p T
theorem whereP_end {D : List NdH} (h : NdH) (hq : quoteN h = false) (hb : blankN h = false) : whereP (D ++ [h]) = (0, false) := by
  unfold whereP
  rw [List.length_append, List.length_singleton]
  simp only [whereG]
  have e : (D ++ [h]).getD D.length zeroN = h := by simp
  rw [e, hq, hb]
  rfl
theorem fold_where {T : Tr} : (whereP (dOf (foldT T))).2 = false := by
  obtain ⟨⟨p, b⟩, h⟩ : ∃ x, whereP (dOf T) = x := ⟨_, rfl⟩
  cases b with
  | false => rw [foldT_no h, h]
  | true =>
    have : dOf (foldT T) = (T.list.take p).map Prod.fst ++ [foldH] := by
      unfold dOf
      rw [foldT_list h, List.map_append]; rfl
    rw [this, whereP_end foldH (by decide) (by decide)]
theorem fold_fold (T : Tr) : foldT (foldT T) = foldT T := by
  obtain ⟨⟨p, b⟩, h⟩ : ∃ x, whereP (dOf (foldT T)) = x := ⟨_, rfl⟩
  have h2 := fold_where (T := T)
  rw [h] at h2
  simp only at h2
  subst h2
  exact foldT_no h
theorem fold_count {T : Tr} {p : Nat} (h : whereP (dOf T) = (p, true)) : (foldT T).count = T.count + 1 := by
  have h1 := app_count (Tr.of (T.list.take p)) (Tr.drop p T)
  rw [cut_app] at h1
  rw [foldT_yes h, app_count]
  simp only [Tr.count]
  omega
theorem fold_count_le (T : Tr) : (foldT T).count ≤ T.count + 1 := by
  obtain ⟨⟨p, b⟩, h⟩ : ∃ x, whereP (dOf T) = x := ⟨_, rfl⟩
  cases b with
  | false => rw [foldT_no h]; omega
  | true => rw [fold_count h]; omega
theorem fold_len {T : Tr} {p : Nat} (h : whereP (dOf T) = (p, true)) : (foldT T).len = p + 1 := by
  have h1 := whereP_le (dOf T)
  rw [h] at h1
  unfold dOf at h1
  rw [List.length_map] at h1
  rw [← Tr.len_list, foldT_list h, List.length_append, List.length_take, List.length_singleton]
  simp only at h1
  omega
theorem fold_small {T : Tr} (ha : T.all smallH = true) : (foldT T).all smallH = true := by
  obtain ⟨⟨p, b⟩, h⟩ : ∃ x, whereP (dOf T) = x := ⟨_, rfl⟩
  cases b with
  | false => rw [foldT_no h]; exact ha
  | true =>
    have h1 := app_all smallH (Tr.of (T.list.take p)) (Tr.drop p T)
    rw [cut_app, ha] at h1
    have h2 := Bool.and_eq_true_iff.1 h1.symm
    rw [foldT_yes h, app_all]
    simp only [Tr.all]
    rw [h2.1, h2.2]
    decide
theorem whereG_pos (D : List NdH) : ∀ (k : Nat) (s : Nat × Bool), (s.2 = true → k ≤ s.1 ∧ 0 < s.1 ∨ k ≤ s.1) → (whereG D k s).2 = true → 0 < (whereG D k s).1
  | 0, s, _, h => by cases h
  | k + 1, s, hs, h => by
    simp only [whereG] at h ⊢
    split at h
    · rename_i h1
      rw [if_pos h1]
      exact whereG_pos D k _ (fun _ => .inr (Nat.le_refl _)) h
    · rename_i h1
      rw [if_neg h1]
      split at h
      · rename_i h2
        rw [if_pos h2]
        exact whereG_pos D k s (fun e => .inr (by rcases hs e with h3 | h3 <;> omega)) h
      · rename_i h2
        rw [if_neg h2]
        rcases hs h with h3 | h3 <;> omega
theorem whereP_pos {D : List NdH} {p : Nat} (h : whereP D = (p, true)) : 0 < p := by
  have := whereG_pos D D.length (0, false) (fun e => by cases e) (by have e : whereG D D.length (0, false) = (p, true) := h; rw [e])
  have e : whereG D D.length (0, false) = (p, true) := h
  rw [e] at this
  exact this
theorem whereG_zero (D : List NdH) : ∀ (k : Nat) (s : Nat × Bool), (s.2 = false → s.1 = 0) → (whereG D k s).2 = false → (whereG D k s).1 = 0
  | 0, s, _, _ => rfl
  | k + 1, s, hs, h => by
    simp only [whereG] at h ⊢
    split at h
    · rename_i h1
      rw [if_pos h1]
      exact whereG_zero D k _ (fun e => by cases e) h
    · rename_i h1
      rw [if_neg h1]
      split at h
      · rename_i h2
        rw [if_pos h2]
        exact whereG_zero D k s hs h
      · rename_i h2
        rw [if_neg h2]
        exact hs h
theorem whereP_zero {D : List NdH} {p : Nat} (h : whereP D = (p, false)) : p = 0 := by
  have e : whereG D D.length (0, false) = (p, false) := h
  have := whereG_zero D D.length (0, false) (fun _ => rfl) (by rw [e])
  rw [e] at this
  exact this
theorem whereG_found (D : List NdH) (p : Nat) : ∀ (k : Nat), whereG D k (0, false) = (p, true) → ∀ s, whereG D k s = (p, true)
  | 0, h => by cases h
  | k + 1, h => fun s => by
    simp only [whereG] at h ⊢
    split at h
    · rename_i h1
      rw [if_pos h1]
      exact h
    · rename_i h1
      rw [if_neg h1]
      split at h
      · rename_i h2
        rw [if_pos h2]
        exact whereG_found D p k h s
      · cases h
theorem whereG_app (D E : List NdH) : ∀ (k : Nat) (s : Nat × Bool), k ≤ D.length → whereG (D ++ E) k s = whereG D k s
  | 0, s, _ => rfl
  | k + 1, s, h => by
    have e : (D ++ E).getD k zeroN = D.getD k zeroN := by
      rw [List.getD_eq_getElem?_getD, List.getD_eq_getElem?_getD, List.getElem?_append_left (by omega)]
    simp only [whereG, e]
    rw [whereG_app D E k _ (by omega), whereG_app D E k _ (by omega)]
def quoteE : NdH := ⟨[98, 108, 111, 99, 107, 113, 117, 111, 116, 101], [], []⟩
def brE : NdH := ⟨[98, 114], [], []⟩
def xE : NdH := ⟨[], [], [120]⟩
theorem whereP_more {D : List NdH} {p : Nat} (h : whereP D = (p, true)) : whereP (D ++ [quoteE, brE]) = (p, true) := by
  have e : whereG D D.length (0, false) = (p, true) := h
  unfold whereP
  rw [show (D ++ [quoteE, brE]).length = D.length + 1 + 1 by simp]
  have e1 : (D ++ [quoteE, brE]).getD (D.length + 1) zeroN = brE := by simp [List.getD_eq_getElem?_getD]
  have e2 : (D ++ [quoteE, brE]).getD D.length zeroN = quoteE := by simp [List.getD_eq_getElem?_getD]
  simp only [whereG, e1, e2]
  rw [if_neg (by decide), if_pos (by decide), if_pos (by decide), whereG_app _ _ _ _ (Nat.le_refl _)]
  exact whereG_found D p _ e _
theorem whereP_x (D : List NdH) : whereP (D ++ [xE]) = (0, false) := whereP_end xE (by decide) (by decide)
theorem small_text {T : Tr} (ha : T.all smallH = true) : ∀ p ∈ T.list, p.1.text.length ≤ 1000000 := by
  intro p hp
  obtain ⟨n, hn⟩ := List.getElem?_of_mem hp
  obtain ⟨h, K⟩ := p
  have := (Tr.all_at ha hn).1
  unfold smallH fitT at this
  simp only [Bool.and_eq_true, decide_eq_true_eq] at this
  show h.text.length ≤ 1000000
  omega
end Go.Proofs.YtjaeheicndfdnaaDoor
